/- A part of the proof. -/
import Derived.Test.YtilkdeghknjjhaaGreatDoorPart27
set_option maxRecDepth 20000
set_option maxHeartbeats 3200000
set_option linter.unusedVariables false
namespace Go.Proofs.YtilkdeghknjjhaaGreatDoor
open Go.RowKit
section
variable {P : Program}
theorem run_append_copy (w : World) (t ty e : TypeId) (i : TypeInfo) (z : Value) (size bytes : Nat) (ht : P.underlying t = some (.slice e)) (hi : P.info? e = some i) (hz : i.zero = some z)
  (hsize : i.size = size) (hby : i.bytes = bytes) (hzs : z.cells.size = size) (hsz : 0 < size) (B : Nat) (v : Value) (n : Nat) (xs : List Value) (hown : w.ownsRow B e size v n xs) (h1 : ∀ u ∈ xs,u.oneCell' = true)
  (h63 : n<=1000000000) (hbytes : n * bytes<=140737488355328) :
  ∃ v' w',(Builtin.append_ #[t,t] ty #[.slice none 0 0,v]).run P w = .ok v' w'/\w'.ownsRow w.heap.size e size v' n xs/\Below w.heap.size w w':=by
 obtain ⟨hl,h2⟩:=hown
 by_cases hn : n = 0
 ·subst hn
  have hx : xs = []:=List.eq_nil_of_length_eq_zero (by omega)
  subst hx
  refine ⟨.slice none 0 0,w,?_,World.ownsRow_nil _ _ _ _,Below.refl _ _⟩
  rcases h2 with ⟨rfl,_⟩ | ⟨g,cap,cur,rfl,_⟩
  ·simp [Builtin.append_,run_underlying ht,sizeOf,typeInfo,hi,Builtin.lenOf,Builtin.firstCells]
  ·simp [Builtin.append_,run_underlying ht,sizeOf,typeInfo,hi,Builtin.lenOf,Builtin.firstCells,loadCells,loadCellsFrom]
 ·rcases h2 with ⟨_,h0⟩ | ⟨g,cap,cur,rfl,hb,hg,hnc,hcm,hcs,htk⟩
  ·exact absurd h0 hn
  ·have hnews : ∀ j u,xs[j]? = some u->w.cell? ((⟨g,0,none⟩ : Addr).add j) = some u:=by
    intro j u hj
    have hj1 : j < xs.length:=(List.getElem?_eq_some_iff.1 hj).1
    rw [Addr.add_lit,cell_of_row _ _ _ _ _ _ hg]
    rw [<- htk,List.getElem?_take_of_lt (by omega)] at hj
    simpa using hj
   obtain ⟨v',w',hr,ho,hgr,_⟩:=run_append_own (P:=P) w w.heap.size t ty e i z size bytes ht hi hz hsize hby hzs hsz (.slice none 0 0) 0 [] (World.ownsRow_nil _ _ _ _) ⟨g,0,none⟩ n cap xs hl hnews h1 (by simp only [maxLen] at *;omega) (by simpa using hbytes) (Nat.le_refl _)
   refine ⟨v',w',hr,by simpa using ho,(Below.refl _ _).grown hgr (Nat.le_refl _) (fun k hk=>by simp [Value.ownBlock] at hk)⟩
theorem wpList_append_copy {w : World} {ops : Array Oper} {rest : List Oper} {o : Oper} {a : Act} {Q : Exit->Act->World->Prop} (hgd : o.guard = none) (s x : Operand) (t : TypeId)
  (ho : o.op = .call { callee:=.builtin .append,args:=#[s,x],argTypes:=#[t,t] })
  (e : TypeId) (i : TypeInfo) (z : Value) (size bytes : Nat) (ht : P.underlying t = some (.slice e)) (hi : P.info? e = some i) (hz : i.zero = some z)
  (hsize : i.size = size) (hby : i.bytes = bytes) (hzs : z.cells.size = size) (hsz : 0 < size) (hs : a.eval s = .slice none 0 0)
  (B : Nat) (v : Value) (n : Nat) (xs : List Value) (hx : a.eval x = v) (hown : w.ownsRow B e size v n xs) (h1 : ∀ u ∈ xs,u.oneCell' = true) (h63 : n<=1000000000) (hbytes : n * bytes<=140737488355328)
  (h : ∀ v' w',w'.ownsRow w.heap.size e size v' n xs->Below w.heap.size w w'->wpList P ops Q rest (a.put o.dst v') w') : wpList P ops Q (o :: rest) a w:=by
 refine wpList_plain hgd fun K hK=>?_
 obtain ⟨v',w',hr,h2,h3⟩:=run_append_copy (P:=P) w t o.type e i z size bytes ht hi hz hsize hby hzs hsz B v n xs hown h1 h63 hbytes
 unfold Oper.wp
 simp [execOp,ho,resolve,invoke,builtin,hs,hx,hr,Result.andThen]
 exact hK _ _ (h v' w' h2 h3)
end
def Dk.new (cap : Int) : Dk:=⟨cap,[],[],[],[],-1,-1,0⟩
theorem New_any (Z : Nat->Prop) (c : Int) (w : World) (hz : Opn Z w) :
  Calls Tryz.prog 23 #[.int .i64 c] w fun e w'=>e = .returned (.pointer (some ⟨w.heap.size,0,none⟩))/\DiskAt Z w' w.heap.size (Dk.new c)/\Below w.heap.size w w':=by
 go_enter Tryz.func23,Tryz.ntmps23
 go_wp2
 go_ret
 refine ⟨rfl,⟨.slice none 0 0,.slice none 0 0,.slice none 0 0,.slice none 0 0,hz _ (Nat.le_refl _),heap_alloc_new w _,World.ownsRow_nil _ _ _ _,World.ownsRow_nil _ _ _ _,World.ownsRow_nil _ _ _ _,World.ownsRow_nil _ _ _ _,?_,?_,?_,?_⟩,(Below.refl _ _).alloc (Nat.le_refl _) _⟩
 all_goals
  intro k hk
  simp [Value.ownBlock] at hk
theorem Copy_any (Y Z : Nat->Prop) (p : Nat) (D : Dk) (w : World) (h : DiskAt Y w p D) (hok : D.OK) (hz : Opn Z w) :
  Calls Tryz.prog 47 #[.pointer (some ⟨p,0,none⟩)] w fun e w'=>∃ q,w.heap.size<=q/\e = .returned (.pointer (some ⟨q,0,none⟩))/\DiskAt Z w' q D/\Below w.heap.size w w':=by
 obtain ⟨i0,hi,hi0,hi1,hi2⟩:=info_parts infoFl
 obtain ⟨j0,hj,hj0,hj1,hj2⟩:=info_parts infoSt
 obtain ⟨k0,hk,hk0,hk1,hk2⟩:=info_parts infoNm
 obtain ⟨vf,vn,vs,vt,h⟩:=h
 obtain ⟨af,qf,hvf,_,_,_⟩:=own_cells h.rf
 obtain ⟨an,qn,hvn,_,_,_⟩:=own_cells h.rn
 obtain ⟨asf,qs,hvs,_,_,_⟩:=own_cells h.rs
 obtain ⟨at_,qt,hvt,_,_,_⟩:=own_cells h.rt
 subst hvf
 subst hvn
 subst hvs
 subst hvt
 have c0 : w.cell? ⟨p,0,none⟩ = some (.int .i64 D.cap):=(h.cell 0).trans rfl
 have c1 : w.cell? ⟨p,1,none⟩ = some (.slice af D.files.length qf):=(h.cell 1).trans rfl
 have c2 : w.cell? ⟨p,2,none⟩ = some (.slice an D.now.length qn):=(h.cell 2).trans rfl
 have c3 : w.cell? ⟨p,3,none⟩ = some (.slice asf D.safe.length qs):=(h.cell 3).trans rfl
 have c4 : w.cell? ⟨p,4,none⟩ = some (.slice at_ D.steps.length qt):=(h.cell 4).trans rfl
 have c5 : w.cell? ⟨p,5,none⟩ = some (.int .i64 D.wait):=(h.cell 5).trans rfl
 have c6 : w.cell? ⟨p,6,none⟩ = some (.int .i64 D.life):=(h.cell 6).trans rfl
 have c7 : w.cell? ⟨p,7,none⟩ = some (.int .i64 D.failed):=(h.cell 7).trans rfl
 have HD : Hid (DiskIn Y w p D (.slice af D.files.length qf) (.slice an D.now.length qn) (.slice asf D.safe.length qs) (.slice at_ D.steps.length qt)):=h
 clear h
 go_enter Tryz.func47,Tryz.ntmps47
 go_upto_region 2 with (fail)
 obtain ⟨W1,hW,HB1,HQ1⟩ : ∃ W1,(w.alloc (.cells #[.int .i64 D.cap,.slice af D.files.length qf,.slice an D.now.length qn,.slice asf D.safe.length qs,.slice at_ D.steps.length qt,.int .i64 D.wait,.int .i64 D.life,.int .i64 D.failed] 94)) = W1/\Hid (Below w.heap.size w W1) /\
   Hid (W1.heap[w.heap.size]? = some (.cells (D.row (.slice af D.files.length qf) (.slice an D.now.length qn) (.slice asf D.safe.length qs) (.slice at_ D.steps.length qt)) 94 (0,0))) :=
  ⟨_,rfl,(Below.refl _ _).alloc (Nat.le_refl _) _,heap_alloc_new w _⟩
 rw [hW]
 clear hW c0 c5 c6 c7
 have d1 : W1.cell? ⟨p,1,none⟩ = some (.slice af D.files.length qf):=cell_later HB1.out c1
 go_upto_region 3 with (first
  | (at_builtin;refine wpList_append_copy rfl _ _ 90 rfl 100 i0 (.agg #[.string ByteArray.empty,.int .i64 0]) 2 24 Tryz.underlying90 hi hi0 hi1 hi2 rfl (by decide) rfl 0 (.slice af D.files.length qf) D.files.length (cellsF D.files) rfl (own_below HD.out.rf HB1.out) (one_cellsF D.files) (by have:=hok.lf;omega) (by have:=hok.lf;omega) ?_))
 intro v1 X1 ho1 hb1
 have hq1:=heap_later hb1 HQ1.out
 have g1 : X1.cell? ⟨w.heap.size,1,none⟩ = some (.slice af D.files.length qf):=by rw [cell_of_row _ _ _ _ _ _ hq1];rfl
 have z1 : ∀ o,X1.frozen? ⟨w.heap.size,o,none⟩ = false:=fun o=>frozen_of_row _ _ _ _ _ hq1
 obtain ⟨b1,r1,hv1,_,_,_⟩:=own_cells ho1
 subst hv1
 go_upto_region 3 with (fail)
 obtain ⟨W2,hW,HB2,HQ2,HO1_1⟩ : ∃ W2,(X1.setCell ⟨w.heap.size,1,none⟩ (.slice b1 D.files.length r1)) = W2/\Hid (Below w.heap.size w W2) /\
   Hid (W2.heap[w.heap.size]? = some (.cells (D.row (.slice b1 D.files.length r1) (.slice an D.now.length qn) (.slice asf D.safe.length qs) (.slice at_ D.steps.length qt)) 94 (0,0)))/\Hid (W2.ownsRow w.heap.size 100 2 (.slice b1 D.files.length r1) D.files.length (cellsF D.files)) :=
  ⟨_,rfl,(HB1.out.trans (hb1.mono HB1.out.size)).setCell (Nat.le_refl _) _,by show _ = _;rw [heap_setCell_self hq1];rfl,own_setCell (own_base ho1 HB1.out.size) hq1 (by decide)⟩
 rw [hW]
 clear hW g1 z1 hq1 hb1 ho1 HB1 HQ1 d1 c1
 have d2 : W2.cell? ⟨p,2,none⟩ = some (.slice an D.now.length qn):=cell_later HB2.out c2
 go_upto_region 4 with (first
  | (at_builtin;refine wpList_append_copy rfl _ _ 91 rfl 102 k0 (.agg #[.string ByteArray.empty,.int .i64 0]) 2 24 Tryz.underlying91 hk hk0 hk1 hk2 rfl (by decide) rfl 0 (.slice an D.now.length qn) D.now.length (cellsN D.now) rfl (own_below HD.out.rn HB2.out) (one_cellsN D.now) (by have:=hok.ln;omega) (by have:=hok.ln;omega) ?_))
 intro v2 X2 ho2 hb2
 have hq2:=heap_later hb2 HQ2.out
 have g2 : X2.cell? ⟨w.heap.size,2,none⟩ = some (.slice an D.now.length qn):=by rw [cell_of_row _ _ _ _ _ _ hq2];rfl
 have z2 : ∀ o,X2.frozen? ⟨w.heap.size,o,none⟩ = false:=fun o=>frozen_of_row _ _ _ _ _ hq2
 obtain ⟨b2,r2,hv2,_,_,_⟩:=own_cells ho2
 subst hv2
 go_upto_region 4 with (fail)
 obtain ⟨W3,hW,HB3,HQ3,HO1_2,HO2_2⟩ : ∃ W3,(X2.setCell ⟨w.heap.size,2,none⟩ (.slice b2 D.now.length r2)) = W3/\Hid (Below w.heap.size w W3) /\
   Hid (W3.heap[w.heap.size]? = some (.cells (D.row (.slice b1 D.files.length r1) (.slice b2 D.now.length r2) (.slice asf D.safe.length qs) (.slice at_ D.steps.length qt)) 94 (0,0)))/\Hid (W3.ownsRow w.heap.size 100 2 (.slice b1 D.files.length r1) D.files.length (cellsF D.files))/\Hid (W3.ownsRow w.heap.size 102 2 (.slice b2 D.now.length r2) D.now.length (cellsN D.now)) :=
  ⟨_,rfl,(HB2.out.trans (hb2.mono HB2.out.size)).setCell (Nat.le_refl _) _,by show _ = _;rw [heap_setCell_self hq2];rfl,own_setCell (own_below HO1_1.out hb2) hq2 (by decide),own_setCell (own_base ho2 HB2.out.size) hq2 (by decide)⟩
 rw [hW]
 clear hW g2 z2 hq2 hb2 ho2 HB2 HQ2 d2 c2 HO1_1
 have d3 : W3.cell? ⟨p,3,none⟩ = some (.slice asf D.safe.length qs):=cell_later HB3.out c3
 go_upto_region 5 with (first
  | (at_builtin;refine wpList_append_copy rfl _ _ 91 rfl 102 k0 (.agg #[.string ByteArray.empty,.int .i64 0]) 2 24 Tryz.underlying91 hk hk0 hk1 hk2 rfl (by decide) rfl 0 (.slice asf D.safe.length qs) D.safe.length (cellsN D.safe) rfl (own_below HD.out.rs HB3.out) (one_cellsN D.safe) (by have:=hok.ls;omega) (by have:=hok.ls;omega) ?_))
 intro v3 X3 ho3 hb3
 have hq3:=heap_later hb3 HQ3.out
 have g3 : X3.cell? ⟨w.heap.size,3,none⟩ = some (.slice asf D.safe.length qs):=by rw [cell_of_row _ _ _ _ _ _ hq3];rfl
 have z3 : ∀ o,X3.frozen? ⟨w.heap.size,o,none⟩ = false:=fun o=>frozen_of_row _ _ _ _ _ hq3
 obtain ⟨b3,r3,hv3,_,_,_⟩:=own_cells ho3
 subst hv3
 go_upto_region 5 with (fail)
 obtain ⟨W4,hW,HB4,HQ4,HO1_3,HO2_3,HO3_3⟩ : ∃ W4,(X3.setCell ⟨w.heap.size,3,none⟩ (.slice b3 D.safe.length r3)) = W4/\Hid (Below w.heap.size w W4) /\
   Hid (W4.heap[w.heap.size]? = some (.cells (D.row (.slice b1 D.files.length r1) (.slice b2 D.now.length r2) (.slice b3 D.safe.length r3) (.slice at_ D.steps.length qt)) 94 (0,0)))/\Hid (W4.ownsRow w.heap.size 100 2 (.slice b1 D.files.length r1) D.files.length (cellsF D.files))/\Hid (W4.ownsRow w.heap.size 102 2 (.slice b2 D.now.length r2) D.now.length (cellsN D.now))/\Hid (W4.ownsRow w.heap.size 102 2 (.slice b3 D.safe.length r3) D.safe.length (cellsN D.safe)) :=
  ⟨_,rfl,(HB3.out.trans (hb3.mono HB3.out.size)).setCell (Nat.le_refl _) _,by show _ = _;rw [heap_setCell_self hq3];rfl,own_setCell (own_below HO1_2.out hb3) hq3 (by decide),own_setCell (own_below HO2_2.out hb3) hq3 (by decide),own_setCell (own_base ho3 HB3.out.size) hq3 (by decide)⟩
 rw [hW]
 clear hW g3 z3 hq3 hb3 ho3 HB3 HQ3 d3 c3 HO1_2 HO2_2
 have d4 : W4.cell? ⟨p,4,none⟩ = some (.slice at_ D.steps.length qt):=cell_later HB4.out c4
 go_upto_region 6 with (first
  | (at_builtin;refine wpList_append_copy rfl _ _ 92 rfl 97 j0 (.agg #[.int .i64 0,.string ByteArray.empty,.string ByteArray.empty,.int .i64 0]) 4 48 Tryz.underlying92 hj hj0 hj1 hj2 rfl (by decide) rfl 0 (.slice at_ D.steps.length qt) D.steps.length (cellsT D.steps) rfl (own_below HD.out.rt HB4.out) (one_cellsT D.steps) (by have:=hok.lt;omega) (by have:=hok.lt;omega) ?_))
 intro v4 X4 ho4 hb4
 have hq4:=heap_later hb4 HQ4.out
 have g4 : X4.cell? ⟨w.heap.size,4,none⟩ = some (.slice at_ D.steps.length qt):=by rw [cell_of_row _ _ _ _ _ _ hq4];rfl
 have z4 : ∀ o,X4.frozen? ⟨w.heap.size,o,none⟩ = false:=fun o=>frozen_of_row _ _ _ _ _ hq4
 obtain ⟨b4,r4,hv4,_,_,_⟩:=own_cells ho4
 subst hv4
 go_upto_region 6 with (fail)
 obtain ⟨W5,hW,HB5,HQ5,HO1_4,HO2_4,HO3_4,HO4_4⟩ : ∃ W5,(X4.setCell ⟨w.heap.size,4,none⟩ (.slice b4 D.steps.length r4)) = W5/\Hid (Below w.heap.size w W5) /\
   Hid (W5.heap[w.heap.size]? = some (.cells (D.row (.slice b1 D.files.length r1) (.slice b2 D.now.length r2) (.slice b3 D.safe.length r3) (.slice b4 D.steps.length r4)) 94 (0,0)))/\Hid (W5.ownsRow w.heap.size 100 2 (.slice b1 D.files.length r1) D.files.length (cellsF D.files))/\Hid (W5.ownsRow w.heap.size 102 2 (.slice b2 D.now.length r2) D.now.length (cellsN D.now))/\Hid (W5.ownsRow w.heap.size 102 2 (.slice b3 D.safe.length r3) D.safe.length (cellsN D.safe))/\Hid (W5.ownsRow w.heap.size 97 4 (.slice b4 D.steps.length r4) D.steps.length (cellsT D.steps)) :=
  ⟨_,rfl,(HB4.out.trans (hb4.mono HB4.out.size)).setCell (Nat.le_refl _) _,by show _ = _;rw [heap_setCell_self hq4];rfl,own_setCell (own_below HO1_3.out hb4) hq4 (by decide),own_setCell (own_below HO2_3.out hb4) hq4 (by decide),own_setCell (own_below HO3_3.out hb4) hq4 (by decide),own_setCell (own_base ho4 HB4.out.size) hq4 (by decide)⟩
 rw [hW]
 clear hW g4 z4 hq4 hb4 ho4 HB4 HQ4 d4 c4 HO1_3 HO2_3 HO3_3
 go_wp2
 go_ret
 refine ⟨w.heap.size,Nat.le_refl _,rfl,⟨_,_,_,_,hz _ (Nat.le_refl _),HQ5.out,own_base HO1_4.out (Nat.zero_le _),own_base HO2_4.out (Nat.zero_le _),own_base HO3_4.out (Nat.zero_le _),own_base HO4_4.out (Nat.zero_le _),?_,?_,?_,?_⟩,HB5.out⟩
 ·exact fun k hk=>hz k (HO1_4.out.lt k hk).1
 ·exact fun k hk=>hz k (HO2_4.out.lt k hk).1
 ·exact fun k hk=>hz k (HO3_4.out.lt k hk).1
 ·exact fun k hk=>hz k (HO4_4.out.lt k hk).1
end Go.Proofs.YtilkdeghknjjhaaGreatDoor
namespace Go.Proofs.YtilkdeghknjjhaaGreatDoor
open Go.RowKit M
variable {x y b : ByteArray} {node : Int} {H : List Mu} {ks : List ByteArray}
theorem less_irr : ∀ x : List UInt8,Op.bytesLess x x = false
 | []=>rfl
 | a :: x=>by simp [Op.bytesLess,less_irr x]
theorem less_trans : ∀ x y z : List UInt8,Op.bytesLess x y = true->Op.bytesLess y z = true->Op.bytesLess x z = true
 | _,[],_,h,_=>by simp [Op.bytesLess] at h
 | _,_ :: _,[],_,h=>by simp [Op.bytesLess] at h
 | [],b :: y,c :: z,_,_=>by simp [Op.bytesLess]
 | a :: x,b :: y,c :: z,h,k=>by
  simp only [Op.bytesLess,Bool.or_eq_true,Bool.and_eq_true,decide_eq_true_eq,beq_iff_eq] at h k ⊢
  rcases h with h | ⟨rfl,h⟩ <;> rcases k with k | ⟨rfl,k⟩
  ·exact .inl (UInt8.lt_trans h k)
  ·exact .inl h
  ·exact .inl k
  ·exact .inr ⟨rfl,less_trans x y z h k⟩
theorem less_tri : ∀ x y : List UInt8,Op.bytesLess x y = true\/x = y\/Op.bytesLess y x = true
 | [],[]=>.inr (.inl rfl)
 | [],_ :: _=>.inl rfl
 | _ :: _,[]=>.inr (.inr rfl)
 | a :: x,b :: y=>by
  simp only [Op.bytesLess,Bool.or_eq_true,Bool.and_eq_true,decide_eq_true_eq,beq_iff_eq]
  rcases Nat.lt_trichotomy a.toNat b.toNat with h | h | h
  ·exact .inl (.inl (UInt8.lt_iff_toNat_lt.2 h))
  ·have e : a = b:=UInt8.toNat_inj.1 h
   subst e
   rcases less_tri x y with h | h | h
   ·exact .inl (.inr ⟨rfl,h⟩)
   ·exact .inr (.inl (by rw [h]))
   ·exact .inr (.inr (.inr ⟨rfl,h⟩))
  ·exact .inr (.inr (.inl (UInt8.lt_iff_toNat_lt.2 h)))
theorem bl_irr (x : ByteArray) : bl x x = false:=less_irr _
theorem bl_trans {z : ByteArray} (h : bl x y = true) (k : bl y z = true) : bl x z = true:=less_trans _ _ _ h k
theorem toList_inj {a : ByteArray} (h : a.toList = b.toList) : a = b:=bytes_eq (by rw [h];simp)
theorem bl_tri (x y : ByteArray) : bl x y = true\/x = y\/bl y x = true:=by
 rcases less_tri x.toList y.toList with h | h | h
 ·exact .inl h
 ·exact .inr (.inl (toList_inj h))
 ·exact .inr (.inr h)
theorem bl_asym (h : bl x y = true) : bl y x = false:=by
 cases hh : bl y x
 ·rfl
 ·exact absurd (bl_trans h hh) (by rw [bl_irr];simp)
theorem bl_nil (x : ByteArray) : bl x ByteArray.empty = false:=by
 unfold bl
 have : ByteArray.empty.toList = []:=by rw [Lib.toList_data];rfl
 rw [this]
 cases x.toList <;> rfl
def bestTo (H : List Mu) (last : ByteArray) : Nat->ByteArray
 | 0=>ByteArray.empty
 | i + 1=>if (!(Op.bytesLess (mu H i).k.toList last.toList || (mu H i).k.toList == last.toList)) = true/\(((bestTo H last i).toList == ([] : List UInt8)) = true\/Op.bytesLess (mu H i).k.toList (bestTo H last i).toList = true) then (mu H i).k else bestTo H last i
theorem gt_iff (k last : ByteArray) : (!(Op.bytesLess k.toList last.toList || k.toList == last.toList)) = true ↔ bl last k = true:=by
 rcases bl_tri k last with h | h | h
 ·have h2:=bl_asym h
  unfold bl at h h2
  simp [h,bl,h2]
 ·subst h
  simp [bl_irr]
 ·have h2:=bl_asym h
  have h3 : k ≠ last:=fun e=>by subst e;rw [bl_irr] at h;simp at h
  have h4 : (k.toList == last.toList) = false:=by
   cases hh : (k.toList == last.toList)
   ·rfl
   ·exact absurd (bytes_eq hh) h3
  unfold bl at h2
  simp [h2,h4,h]
theorem nil_iff (k : ByteArray) : (k.toList == ([] : List UInt8)) = true ↔ k = ByteArray.empty:=by
 have e : ByteArray.empty.toList = []:=by rw [Lib.toList_data];rfl
 constructor
 ·intro h;exact toList_inj (by rw [e];simpa using h)
 ·intro h;rw [h,e];rfl
theorem bestTo_spec (H : List Mu) (last : ByteArray) : ∀ n,n<=H.length ->
  (bestTo H last n = ByteArray.empty/\(∀ i,i < n->bl last (mu H i).k = false)) \/
  (bl last (bestTo H last n) = true/\(∃ i,i < n/\(mu H i).k = bestTo H last n)/\∀ i,i < n->bl last (mu H i).k = true->bl (mu H i).k (bestTo H last n) = false)
 | 0,_=>.inl ⟨rfl,fun i h=>absurd h (Nat.not_lt_zero i)⟩
 | n + 1,hn=>by
  have ih:=bestTo_spec H last n (by omega)
  by_cases hc : (!(Op.bytesLess (mu H n).k.toList last.toList || (mu H n).k.toList == last.toList)) = true/\(((bestTo H last n).toList == ([] : List UInt8)) = true\/Op.bytesLess (mu H n).k.toList (bestTo H last n).toList = true)
  ·have e : bestTo H last (n + 1) = (mu H n).k:=by show (if _ then _ else _) = _;rw [if_pos hc]
   rw [e]
   have hg:=(gt_iff _ _).1 hc.1
   refine .inr ⟨hg,⟨n,by omega,rfl⟩,fun i hi hgi=>?_⟩
   rcases Nat.lt_succ_iff_lt_or_eq.1 hi with h | rfl
   ·rcases ih with ⟨h1,h2⟩ | ⟨h1,h2,h3⟩
    ·rw [h2 i h] at hgi;simp at hgi
    ·have h4:=h3 i h hgi
     rcases hc.2 with h5 | h5
     ·rw [(nil_iff _).1 h5,bl_nil] at h1;simp at h1
     ·have h6 : bl (mu H n).k (bestTo H last n) = true:=h5
      cases hh : bl (mu H i).k (mu H n).k
      ·rfl
      ·exact absurd (bl_trans hh h6) (by rw [h4];simp)
   ·exact bl_irr _
  ·have e : bestTo H last (n + 1) = bestTo H last n:=by show (if _ then _ else _) = _;rw [if_neg hc]
   rw [e]
   rcases ih with ⟨h1,h2⟩ | ⟨h1,h2,h3⟩
   ·refine .inl ⟨h1,fun i hi=>?_⟩
    rcases Nat.lt_succ_iff_lt_or_eq.1 hi with h | rfl
    ·exact h2 i h
    ·cases hh : bl last (mu H i).k
     ·rfl
     ·exact absurd ⟨(gt_iff _ _).2 hh,.inl ((nil_iff _).2 h1)⟩ hc
   ·obtain ⟨j,hj,hk⟩:=h2
    refine .inr ⟨h1,⟨j,by omega,hk⟩,fun i hi hgi=>?_⟩
    rcases Nat.lt_succ_iff_lt_or_eq.1 hi with h | rfl
    ·exact h3 i h hgi
    ·cases hh : bl (mu H i).k (bestTo H last i)
     ·rfl
     ·exact absurd ⟨(gt_iff _ _).2 hgi,.inr hh⟩ hc
def KeysTo (node : Int) (H : List Mu) (last : ByteArray) (ks : List ByteArray) : Prop :=
 ks.Pairwise (fun a b=>bl a b = true)/\∀ k,k ∈ ks ↔ (∃ i,i < H.length/\(mu H i).k = k)/\k ≠ ByteArray.empty/\bl last k = false/\(ofM node H k).L ≠ []
def KeysOf (node : Int) (H : List Mu) (ks : List ByteArray) : Prop :=
 ks.Pairwise (fun a b=>bl a b = true)/\∀ k,k ∈ ks ↔ (∃ i,i < H.length/\(mu H i).k = k)/\k ≠ ByteArray.empty/\(ofM node H k).L ≠ []
theorem bl_pos {k : ByteArray} (h : k ≠ ByteArray.empty) : bl ByteArray.empty k = true:=by
 rcases bl_tri ByteArray.empty k with h1 | h1 | h1
 ·exact h1
 ·exact absurd h1.symm h
 ·rw [bl_nil] at h1;simp at h1
theorem KeysTo.start (node : Int) (H : List Mu) : KeysTo node H ByteArray.empty [] :=
 ⟨List.Pairwise.nil,fun k=>⟨fun h=>by simp at h,fun ⟨_,h1,h2,_⟩=>by rw [bl_pos h1] at h2;simp at h2⟩⟩
theorem KeysTo.last {last : ByteArray} (h : KeysTo node H last ks) (hb : bestTo H last H.length = ByteArray.empty) : KeysOf node H ks:=by
 refine ⟨h.1,fun k=>(h.2 k).trans ⟨fun ⟨h1,h2,_,h4⟩=>⟨h1,h2,h4⟩,fun ⟨h1,h2,h4⟩=>⟨h1,h2,?_,h4⟩⟩⟩
 obtain ⟨i,hi,rfl⟩:=h1
 rcases bestTo_spec H last H.length (Nat.le_refl _) with ⟨_,h5⟩ | ⟨h5,_⟩
 ·exact h5 i hi
 ·rw [hb,bl_nil] at h5;simp at h5
theorem KeysTo.next {last : ByteArray} (h : KeysTo node H last ks) (hb : bestTo H last H.length = b) (hn : b ≠ ByteArray.empty) :
  bl last b = true/\KeysTo node H b (if (ofM node H b).L ≠ [] then ks ++ [b] else ks):=by
 rcases bestTo_spec H last H.length (Nat.le_refl _) with ⟨h5,_⟩ | ⟨h5,⟨j,hj,hjk⟩,h7⟩
 ·exact absurd (hb.symm.trans h5) hn
 rw [hb] at h5 hjk h7
 refine ⟨h5,?_⟩
 have key : ∀ k,((∃ i,i < H.length/\(mu H i).k = k)/\k ≠ ByteArray.empty/\bl b k = false/\(ofM node H k).L ≠ []) ↔ (k ∈ ks\/(k = b/\(ofM node H k).L ≠ [])):=by
  intro k
  rw [h.2 k]
  constructor
  ·rintro ⟨⟨i,hi,rfl⟩,h2,h3,h4⟩
   cases hh : bl last (mu H i).k
   ·exact .inl ⟨⟨i,hi,rfl⟩,h2,rfl,h4⟩
   ·have h8:=h7 i hi hh
    rcases bl_tri (mu H i).k b with h9 | h9 | h9
    ·rw [h8] at h9;simp at h9
    ·exact .inr ⟨h9,h4⟩
    ·rw [h3] at h9;simp at h9
  ·rintro (⟨h1,h2,h3,h4⟩ | ⟨rfl,h4⟩)
   ·refine ⟨h1,h2,?_,h4⟩
    cases hh : bl b k
    ·rfl
    ·rw [bl_trans h5 hh] at h3;simp at h3
   ·exact ⟨⟨j,hj,hjk⟩,hn,bl_irr _,h4⟩
 by_cases hne : (ofM node H b).L ≠ []
 ·rw [if_pos hne]
  refine ⟨?_,fun k=>?_⟩
  ·refine List.pairwise_append.2 ⟨h.1,by simp,fun x hx y hy=>?_⟩
   simp at hy
   subst hy
   have hx2:=((h.2 x).1 hx).2.2.1
   rcases bl_tri x y with h9 | h9 | h9
   ·exact h9
   ·subst h9;rw [h5] at hx2;simp at hx2
   ·rw [bl_trans h5 h9] at hx2;simp at hx2
  ·rw [key k]
   simp only [List.mem_append,List.mem_singleton]
   constructor
   ·rintro (h1 | rfl)
    ·exact .inl h1
    ·exact .inr ⟨rfl,hne⟩
   ·rintro (h1 | ⟨h1,_⟩)
    ·exact .inl h1
    ·exact .inr h1
 ·rw [if_neg hne]
  refine ⟨h.1,fun k=>?_⟩
  rw [key k]
  constructor
  ·exact fun h1=>.inl h1
  ·rintro (h1 | ⟨rfl,h1⟩)
   ·exact h1
   ·exact absurd h1 hne
theorem rising_eq : ∀ {a b : List ByteArray},a.Pairwise (fun x y=>bl x y = true)->b.Pairwise (fun x y=>bl x y = true)->(∀ k,k ∈ a ↔ k ∈ b)->a = b
 | [],[],_,_,_=>rfl
 | [],y :: b,_,_,h=>absurd ((h y).2 (by simp)) (by simp)
 | x :: a,[],_,_,h=>absurd ((h x).1 (by simp)) (by simp)
 | x :: a,y :: b,ha,hb,h=>by
  have ha1 : ∀ {z},z ∈ a->bl x z = true:=fun h=>List.rel_of_pairwise_cons ha h
  have hb1 : ∀ {z},z ∈ b->bl y z = true:=fun h=>List.rel_of_pairwise_cons hb h
  have e : x = y:=by
   rcases List.mem_cons.1 ((h x).1 (by simp)) with h1 | h1
   ·exact h1
   ·rcases List.mem_cons.1 ((h y).2 (by simp)) with h2 | h2
    ·exact h2.symm
    ·have:=bl_asym (hb1 h1)
     rw [ha1 h2] at this;simp at this
  subst e
  congr 1
  refine rising_eq ha.of_cons hb.of_cons fun k=>?_
  constructor
  ·intro hk
   rcases List.mem_cons.1 ((h k).1 (List.mem_cons_of_mem _ hk)) with h1 | h1
   ·subst h1;have:=ha1 hk;rw [bl_irr] at this;simp at this
   ·exact h1
  ·intro hk
   rcases List.mem_cons.1 ((h k).2 (List.mem_cons_of_mem _ hk)) with h1 | h1
   ·subst h1;have:=hb1 hk;rw [bl_irr] at this;simp at this
   ·exact h1
end Go.Proofs.YtilkdeghknjjhaaGreatDoor
namespace Go.Proofs.YtilkdeghknjjhaaGreatDoor
open Go.RowKit M
def Srt (l : List Nm) : Prop:=l.Pairwise (fun a b=>bl a.n b.n = true)
def NE (l : List Nm) : Prop:=∀ x ∈ l,x.n ≠ ByteArray.empty
theorem srt_lt {l : List Nm} (h : Srt l) {i j : Nat} (hij : i < j) (hj : j < l.length) : bl (nm l i).n (nm l j).n = true:=by
 rw [nm_get l i (by omega),nm_get l j hj]
 exact List.pairwise_iff_getElem.1 h i j (by omega) hj hij
theorem mem_at {l : List Nm} (hs : Srt l) {x : Nm} (hx : x ∈ l) : there l x.n = true/\nm l (fd l x.n) = x:=by
 obtain ⟨i,hi,rfl⟩:=List.getElem_of_mem hx
 have hf : fd l l[i].n = i:=fd_is (by omega) (fun j hj=>by have:=srt_lt hs hj hi;rwa [nm_get l i hi] at this) (fun _=>by rw [nm_get l i hi];exact bl_irr _)
 refine ⟨?_,by rw [hf,nm_get l i hi]⟩
 unfold there
 rw [hf,nm_get l i hi]
 simp [hi]
theorem there_mem {l : List Nm} {n : ByteArray} (h : there l n = true) : nm l (fd l n) ∈ l/\(nm l (fd l n)).n = n:=by
 unfold there at h
 simp only [Bool.and_eq_true,decide_eq_true_eq] at h
 refine ⟨by rw [nm_get l _ h.1];exact List.getElem_mem _,bytes_eq h.2⟩
theorem there_iff {l : List Nm} (hs : Srt l) (n : ByteArray) : there l n = true ↔ ∃ x ∈ l,x.n = n:=by
 constructor
 ·intro h;exact ⟨_,there_mem h⟩
 ·rintro ⟨x,hx,rfl⟩;exact (mem_at hs hx).1
def insN (l : List Nm) (x : Nm) : List Nm:=l.take (fd l x.n) ++ x :: l.drop (fd l x.n)
theorem mem_ins {l : List Nm} {x y : Nm} : y ∈ insN l x ↔ y = x\/y ∈ l:=by
 unfold insN
 have e : l = l.take (fd l x.n) ++ l.drop (fd l x.n):=(List.take_append_drop _ _).symm
 constructor
 ·intro h
  rcases List.mem_append.1 h with h | h
  ·exact .inr (List.mem_of_mem_take h)
  ·rcases List.mem_cons.1 h with h | h
   ·exact .inl h
   ·exact .inr (List.mem_of_mem_drop h)
 ·rintro (rfl | h)
  ·simp
  ·rw [e] at h
   rcases List.mem_append.1 h with h | h
   ·exact List.mem_append.2 (.inl h)
   ·exact List.mem_append.2 (.inr (List.mem_cons_of_mem _ h))
theorem srt_ins {l : List Nm} {x : Nm} (hs : Srt l) (hx : there l x.n = false) : Srt (insN l x):=by
 have hle:=fd_le l x.n
 unfold insN Srt
 refine List.pairwise_append.2 ⟨hs.sublist (List.take_sublist _ _),List.pairwise_cons.2 ⟨fun y hy=>?_,hs.sublist (List.drop_sublist _ _)⟩,fun a ha b hb=>?_⟩
 ·obtain ⟨i,hi,rfl⟩:=List.getElem_of_mem hy
  simp only [List.length_drop] at hi
  rw [List.getElem_drop]
  have hp : bl (nm l (fd l x.n)).n x.n = false:=fd_at (by omega)
  have hne : ¬ (nm l (fd l x.n)).n = x.n:=fun e=>by
   have : there l x.n = true:=by unfold there;rw [e];simp;omega
   rw [hx] at this;simp at this
  have hlt : bl x.n (nm l (fd l x.n)).n = true:=by
   rcases bl_tri (nm l (fd l x.n)).n x.n with h | h | h
   ·rw [hp] at h;simp at h
   ·exact absurd h hne
   ·exact h
  rw [<- nm_get l _ (by omega)]
  by_cases h0 : i = 0
  ·subst h0;exact hlt
  ·exact bl_trans hlt (srt_lt hs (by omega) (by omega))
 ·have haa : bl a.n x.n = true:=by
   obtain ⟨i,hi,rfl⟩:=List.getElem_of_mem ha
   simp only [List.length_take] at hi
   rw [List.getElem_take,<- nm_get l i (by omega)]
   exact fd_lt (by omega)
  rcases List.mem_cons.1 hb with rfl | hb
  ·exact haa
  ·have e : l = l.take (fd l x.n) ++ l.drop (fd l x.n):=(List.take_append_drop _ _).symm
   have h2:=hs
   rw [e] at h2
   exact (List.pairwise_append.1 h2).2.2 a ha b hb
theorem doTo_ins {l : List Nm} {s : Stp} (hk : (s.k == 3) = false) (hn : ∀ x ∈ l,(x.n.toList == s.fr.toList) = false) (ht : ∀ x ∈ l,(x.n.toList == s.to.toList) = false) : ∀ k,k<=l.length ->
  doTo l s k = if k<=fd l s.to then l.take k else l.take (fd l s.to) ++ ⟨s.to,s.f⟩ :: (l.drop (fd l s.to)).take (k - fd l s.to)
 | 0,_=>by simp [doTo]
 | k + 1,h=>by
  have ih:=doTo_ins hk hn ht k (by omega)
  have hx : nm l k ∈ l:=by rw [nm_get l k (by omega)];exact List.getElem_mem _
  have hB : doB s (nm l k) = [nm l k]:=by unfold doB;rw [if_pos ⟨hn _ hx,.inr (ht _ hx)⟩]
  have hsn : l.take (k + 1) = l.take k ++ [nm l k]:=by rw [List.take_succ_eq_append_getElem (by omega),nm_get l k (by omega)]
  have h3 : (s.k != 3) = true:=by simp [bne,hk]
  show doTo l s k ++ doA s (fd l s.to) k ++ doB s (nm l k) = _
  rw [ih,hB]
  rcases Nat.lt_trichotomy k (fd l s.to) with h1 | h1 | h1
  ·have hA : doA s (fd l s.to) k = []:=by unfold doA;rw [if_neg (fun hh=>by have:=hh.1;simp at this;omega)]
   rw [hA,if_pos (by omega),if_pos (by omega),hsn];simp
  ·have hA : doA s (fd l s.to) k = [⟨s.to,s.f⟩]:=by unfold doA;rw [if_pos ⟨by simp [h1],h3⟩]
   rw [hA,if_pos (by omega),if_neg (by omega),<- h1,show k + 1 - k = 1 by omega]
   have : (l.drop k).take 1 = [nm l k]:=by
    rw [nm_get l k (by omega),List.drop_eq_getElem_cons (by omega)];rfl
   rw [this];simp
  ·have hA : doA s (fd l s.to) k = []:=by unfold doA;rw [if_neg (fun hh=>by have:=hh.1;simp at this;omega)]
   rw [hA,if_neg (by omega),if_neg (by omega),show k + 1 - fd l s.to = (k - fd l s.to) + 1 by omega]
   have : (l.drop (fd l s.to)).take (k - fd l s.to + 1) = (l.drop (fd l s.to)).take (k - fd l s.to) ++ [nm l k]:=by
    rw [List.take_succ_eq_append_getElem (by simp;omega),nm_get l k (by omega)]
    have e : ∀ (j : Nat) (hj : j < l.length),j = k->l[j] = l[k]:=fun j hj he=>by subst he;rfl
    rw [List.getElem_drop,e _ (by omega) (by omega)]
   rw [this];simp
theorem doS_ins {l : List Nm} {s : Stp} (hk : (s.k == 3) = false) (hn : ∀ x ∈ l,(x.n.toList == s.fr.toList) = false) (ht : ∀ x ∈ l,(x.n.toList == s.to.toList) = false) : doS l s = insN l ⟨s.to,s.f⟩:=by
 have hle:=fd_le l s.to
 have h3 : (s.k != 3) = true:=by simp [bne,hk]
 unfold doS insN
 rw [doTo_ins hk hn ht l.length (Nat.le_refl _)]
 by_cases h : l.length<=fd l s.to
 ·have e : fd l s.to = l.length:=by omega
  have hA : doA s (fd l s.to) l.length = [⟨s.to,s.f⟩]:=by unfold doA;rw [if_pos ⟨by simp [e],h3⟩]
  rw [if_pos h,hA,e];simp
 ·have hA : doA s (fd l s.to) l.length = []:=by unfold doA;rw [if_neg (fun hh=>by have:=hh.1;simp at this;omega)]
  rw [if_neg h,hA,List.append_nil]
  congr 2
  rw [List.take_of_length_le (by simp)]
end Go.Proofs.YtilkdeghknjjhaaGreatDoor
namespace Go.Proofs.YtilkdeghknjjhaaGreatDoor
open Go.RowKit M
variable {n : ByteArray}
theorem ne_toList {a b : ByteArray} (h : a ≠ b) : (a.toList == b.toList) = false:=by
 cases hh : (a.toList == b.toList)
 ·rfl
 ·exact absurd (bytes_eq hh) h
theorem not_there {l : List Nm} (hs : Srt l) (h : there l n = false) : ∀ x ∈ l,x.n ≠ n:=fun x hx e=>by
 have:=(there_iff hs n).2 ⟨x,hx,e⟩
 rw [h] at this;simp at this
theorem mem_set_or {α : Type} {l : List α} {i : Nat} {a x : α} (h : x ∈ l.set i a) : x ∈ l\/x = a:=by
 obtain ⟨j,hj,rfl⟩:=List.getElem_of_mem h
 rw [List.getElem_set]
 split
 ·exact .inr rfl
 ·exact .inl (List.getElem_mem _)
structure Dk.WF (D : Dk) : Prop where
 ok : D.OK
 srt : Srt D.now
 ne : NE D.now
theorem Dk.WF.chg {D : Dk} (h : D.WF) (hf : D.failed < 1000000000000000) : D.chg.WF:=⟨h.ok.chg hf,by rw [D.chg_now];exact h.srt,by rw [D.chg_now];exact h.ne⟩
theorem Dk.WF.sync {D : Dk} (h : D.WF) (hf : D.failed < 1000000000000000) (n : ByteArray) : (D.sync n).WF:=by
 unfold Dk.sync
 have hc:=h.chg hf
 split
 ·refine ⟨⟨⟨hc.ok.fit.w,hc.ok.fit.l,hc.ok.fit.f0,hc.ok.fit.f1⟩,?_,?_,?_,hc.ok.ln,?_,hc.ok.lt,hc.ok.ls,?_,hc.ok.c0,hc.ok.c1,?_⟩,hc.srt,hc.ne⟩
  ·intro x hx;have:=hc.ok.now x hx;rw [D.chg_files] at this;simpa using this
  ·intro x hx;have:=hc.ok.safe x hx;rw [D.chg_files] at this;simpa using this
  ·intro x hx;have:=hc.ok.steps x hx;rw [D.chg_files] at this;simpa using this
  ·have:=h.ok.lf;simpa using this
  ·intro x hx
   rcases mem_set_or hx with hx | rfl
   ·exact h.ok.sz x hx
   ·exact h.ok.size _
  ·intro hcap x hx
   have hcap' : D.cap < 0:=by have : D.chg.cap < 0:=hcap;rwa [D.chg_cap] at this
   rcases mem_set_or hx with hx | rfl
   ·exact h.ok.neg hcap' x hx
   ·exact h.ok.size0 hcap' _
 ·exact hc
theorem Dk.WF.syncDir {D : Dk} (h : D.WF) (hf : D.failed < 1000000000000000) : D.syncDir.WF:=by
 unfold Dk.syncDir
 have hc:=h.chg hf
 split
 ·refine ⟨⟨⟨hc.ok.fit.w,hc.ok.fit.l,hc.ok.fit.f0,hc.ok.fit.f1⟩,hc.ok.now,?_,fun x hx=>by simp at hx,hc.ok.ln,hc.ok.lf,by simp,h.ok.ln,hc.ok.sz,hc.ok.c0,hc.ok.c1,hc.ok.neg⟩,hc.srt,hc.ne⟩
  intro x hx
  have:=h.ok.now x hx
  show x.f < D.chg.files.length
  rw [D.chg_files];exact this
 ·exact hc
theorem Dk.WF.append {D : Dk} (h : D.WF) (hf : D.failed < 1000000000000000) (n t : ByteArray) (hs : D.sizeOf n + t.size<=1000000000) : (D.append n t).WF:=by
 unfold Dk.append
 have hc:=h.chg hf
 split
 ·rename_i ha
  refine ⟨⟨⟨hc.ok.fit.w,hc.ok.fit.l,hc.ok.fit.f0,hc.ok.fit.f1⟩,?_,?_,?_,hc.ok.ln,?_,hc.ok.lt,hc.ok.ls,?_,hc.ok.c0,hc.ok.c1,?_⟩,hc.srt,hc.ne⟩
  ·intro x hx;have:=hc.ok.now x hx;rw [D.chg_files] at this;simpa using this
  ·intro x hx;have:=hc.ok.safe x hx;rw [D.chg_files] at this;simpa using this
  ·intro x hx;have:=hc.ok.steps x hx;rw [D.chg_files] at this;simpa using this
  ·have:=h.ok.lf;simpa using this
  ·intro x hx
   rcases mem_set_or hx with hx | rfl
   ·exact h.ok.sz x hx
   ·show ((fl D.files (D.at n)).d ++ t).size<=_
    rw [ByteArray.size_append];exact hs
  ·intro hcap x hx
   exfalso
   have hcap' : D.cap < 0:=by have : D.chg.cap < 0:=hcap;rwa [D.chg_cap] at this
   have hb:=h.ok.bytes
   unfold Dk.appends at ha
   simp only [Bool.and_eq_true,decide_eq_true_eq] at ha
   omega
 ·exact hc
theorem Dk.create_now {D : Dk} (h : D.WF) (hc : D.creates n = true) : doS D.now (D.step1 n) = insN D.now ⟨n,D.files.length⟩/\there D.now n = false/\n ≠ ByteArray.empty:=by
 unfold Dk.creates at hc
 simp only [Bool.and_eq_true,Bool.not_eq_true'] at hc
 have hn : n ≠ ByteArray.empty:=fun e=>by
  have:=(nil_iff n).2 e
  rw [hc.2] at this;simp at this
 exact ⟨doS_ins (s:=D.step1 n) rfl (fun x hx=>ne_toList (h.ne x hx)) (fun x hx=>ne_toList (not_there h.srt hc.1.2 x hx)),hc.1.2,hn⟩
theorem insN_len (l : List Nm) (x : Nm) : (insN l x).length = l.length + 1:=by
 have:=fd_le l x.n
 unfold insN
 simp;omega
theorem Dk.WF.create {D : Dk} (h : D.WF) (hf : D.failed < 1000000000000000) (n : ByteArray) (h1 : D.files.length < 1000000000) (h2 : D.steps.length < 1000000000) (h3 : D.now.length < 1000000000) : (D.create n).WF:=by
 unfold Dk.create
 have hc:=h.chg hf
 split
 ·rename_i ha
  obtain ⟨e,ht,hn⟩:=Dk.create_now h ha
  have hm : ∀ x ∈ insN D.now ⟨n,D.files.length⟩,x.f < (D.files ++ [Fl.z]).length:=fun x hx=>by
   rcases mem_ins.1 hx with rfl | hx
   ·simp
   ·have:=h.ok.now x hx;simp;omega
  rw [e]
  refine ⟨⟨⟨hc.ok.fit.w,hc.ok.fit.l,hc.ok.fit.f0,hc.ok.fit.f1⟩,hm,?_,?_,?_,?_,?_,hc.ok.ls,?_,hc.ok.c0,hc.ok.c1,?_⟩,srt_ins h.srt ht,?_⟩
  ·intro x hx;have:=hc.ok.safe x hx;rw [D.chg_files] at this;simp;omega
  ·intro x hx
   rcases List.mem_append.1 hx with hx | hx
   ·have:=h.ok.steps x hx;simp;omega
   ·simp at hx;subst hx;simp [Dk.step1]
  ·show (insN D.now _).length<=_
   rw [insN_len];omega
  ·simp;omega
  ·simp;omega
  ·intro x hx
   rcases List.mem_append.1 hx with hx | hx
   ·exact h.ok.sz x hx
   ·simp at hx;subst hx;simp [Fl.z]
  ·intro hcap x hx
   have hcap' : D.cap < 0:=by have : D.chg.cap < 0:=hcap;rwa [D.chg_cap] at this
   rcases List.mem_append.1 hx with hx | hx
   ·exact h.ok.neg hcap' x hx
   ·simp at hx;subst hx;simp [Fl.z]
  ·intro x hx
   rcases mem_ins.1 hx with rfl | hx
   ·exact hn
   ·exact h.ne x hx
 ·exact hc
theorem Dk.WF.new (c : Int) (h0 : -9223372036854775808<=c) (h1 : c<=9223372036854775807) : (Dk.new c).WF :=
 ⟨⟨⟨by show (-1 : Int)<=_;omega,by show (-1 : Int)<=_;omega,by show (0 : Int)<=0;omega,by show (0 : Int)<=_;omega⟩,fun x hx=>by simp [Dk.new] at hx,fun x hx=>by simp [Dk.new] at hx,fun x hx=>by simp [Dk.new] at hx,by simp [Dk.new],by simp [Dk.new],by simp [Dk.new],by simp [Dk.new],fun x hx=>by simp [Dk.new] at hx,h0,h1,fun _ x hx=>by simp [Dk.new] at hx⟩,by simp [Dk.new,Srt],fun x hx=>by simp [Dk.new] at hx⟩
end Go.Proofs.YtilkdeghknjjhaaGreatDoor
namespace Go.Proofs.YtilkdeghknjjhaaGreatDoor
open Go.RowKit M
variable {k : Nat}
structure Dk.Bud (D : Dk) (k : Nat) : Prop where
 f : D.failed + k<=1000000000000000
 l : D.files.length + k<=1000000000
 s : D.steps.length + k<=1000000000
 n : D.now.length + k<=1000000000
theorem Dk.Bud.mono {D : Dk} {m : Nat} (h : D.Bud k) (hm : m<=k) : D.Bud m:=by
 obtain ⟨a,b,c,d⟩:=h
 exact ⟨by omega,by omega,by omega,by omega⟩
theorem Dk.chg_failed (D : Dk) : D.chg.failed<=D.failed + 1:=by
 unfold Dk.chg
 split
 ·show D.failed<=_;omega
 ·show D.failed + 1<=_;omega
theorem Dk.Bud.chg {D : Dk} (h : D.Bud (k + 1)) : D.chg.Bud k:=by
 have:=D.chg_failed
 obtain ⟨a,b,c,d⟩:=h
 exact ⟨by omega,by rw [D.chg_files];omega,by rw [D.chg_steps];omega,by rw [D.chg_now];omega⟩
theorem Dk.Bud.lt {D : Dk} (h : D.Bud (k + 1)) : D.failed < 1000000000000000:=by have:=h.f;omega
theorem Dk.Bud.sync {D : Dk} (h : D.Bud (k + 1)) (n : ByteArray) : (D.sync n).Bud k:=by
 have hc:=h.chg
 unfold Dk.sync
 split
 ·exact ⟨hc.f,by have:=h.l;show (D.files.set _ _).length + k<=_;rw [List.length_set];omega,hc.s,hc.n⟩
 ·exact hc
theorem Dk.Bud.syncDir {D : Dk} (h : D.Bud (k + 1)) : D.syncDir.Bud k:=by
 have hc:=h.chg
 unfold Dk.syncDir
 split
 ·exact ⟨hc.f,hc.l,by have:=h.s;show 0 + k<=_;omega,hc.n⟩
 ·exact hc
theorem Dk.Bud.append {D : Dk} (h : D.Bud (k + 1)) (n t : ByteArray) : (D.append n t).Bud k:=by
 have hc:=h.chg
 unfold Dk.append
 split
 ·exact ⟨hc.f,by have:=h.l;show (D.files.set _ _).length + k<=_;rw [List.length_set];omega,hc.s,hc.n⟩
 ·exact hc
theorem Dk.Bud.create {D : Dk} (hw : D.WF) (h : D.Bud (k + 1)) (n : ByteArray) : (D.create n).Bud k:=by
 have hc:=h.chg
 unfold Dk.create
 split
 ·rename_i ha
  obtain ⟨e,_,_⟩:=Dk.create_now hw ha
  refine ⟨hc.f,?_,?_,?_⟩
  ·have:=h.l;show (D.files ++ [Fl.z]).length + k<=_;simp;omega
  ·have:=h.s;show (D.steps ++ [D.step1 n]).length + k<=_;simp;omega
  ·have:=h.n;show (doS D.now (D.step1 n)).length + k<=_;rw [e,insN_len];omega
 ·exact hc
theorem Dk.WF.create' {D : Dk} (hw : D.WF) (h : D.Bud (k + 1)) (n : ByteArray) : (D.create n).WF:=hw.create h.lt n (by have:=h.l;omega) (by have:=h.s;omega) (by have:=h.n;omega)
end Go.Proofs.YtilkdeghknjjhaaGreatDoor
