/- A part of the proof. -/
import Derived.Test.YtilkdeghknjjhaaGreatDoorPart30
import Derived.RegionTactic
import Derived.Test.YtilkdeghknjjhaaGreatDoorPart32
set_option maxRecDepth 20000
set_option maxHeartbeats 3200000
set_option linter.unusedVariables false
namespace Go.Proofs.YtilkdeghknjjhaaGreatDoor
open Go.RowKit M Go.Maps
theorem set_same {r : Array Value} {o : Nat} {v : Value} (h : r[o]? = some v) : r.setIfInBounds o v = r:=by
 apply Array.ext_getElem?
 intro i
 rw [Array.getElem?_setIfInBounds]
 split
 ·rename_i e
  subst e
  split
  ·exact h.symm
  ·rename_i hn
   rw [Array.getElem?_eq_none (by omega)] at h;cases h
 ·rfl
theorem heap_alloc_old' (w : World) (o : Obj) (i : Nat) (h : i < w.heap.size) : (w.alloc o).heap[i]? = w.heap[i]?:=((Below.refl _ w).alloc (Nat.le_refl _) o).block i h
def TPutEnd (w : World) (p o : Nat) (row : Array Value) (ty : TypeId) (mv : Value) (n : Nat) (T : ByteArray->Option Value) (w' : World) : Prop :=
 ∃ mv',w'.heap[p]? = some (.cells (row.setIfInBounds o mv') ty (0,0))/\TabV w' mv' n T/\Tr (fun b=>b = p\/mapBlock mv = some b) w w'/\(mv' = mv\/∃ b,mv' = .map (some b)/\w.heap.size<=b/\b < w'.heap.size)
theorem tPut_any (p o : Nat) (row : Array Value) (ty : TypeId) (mv : Value) (n : Nat) (T : ByteArray->Option Value) (k : ByteArray) (v : Value) (w : World) (hp : w.heap[p]? = some (.cells row ty (0,0))) (ho : row[o]? = some mv) (h : TabV w mv n T) (hk : k.size<=maxLen) (hn : n < 1000000000000) (hsv : SetV v) :
  Calls Tryz.prog 149 #[.pointer (some ⟨p,o,none⟩),.string k,v] w fun e w'=>e = .returned (.tuple #[])/\TPutEnd w p o row ty mv (n + 1) (upd T k (some v)) w':=by
 obtain ⟨a,l,c,a',l',c',rfl⟩:=hsv
 have hSV : SetV (.agg #[.slice a l c,.slice a' l' c']):=⟨_,_,_,_,_,_,rfl⟩
 obtain ⟨W,hW,HB,HP,HV,HTb⟩ : ∃ W,(w.alloc (.cells #[.slice a l c,.slice a' l' c'] 117)) = W/\Hid (Below w.heap.size w W)/\Hid (W.heap[p]? = some (.cells row ty (0,0)))/\Hid (W.heap[w.heap.size]? = some (.cells #[.slice a l c,.slice a' l' c'] 117 (0,0)))/\Hid (TabV W mv n T) :=
  ⟨_,rfl,(Below.refl _ _).alloc (Nat.le_refl _) _,heap_later ((Below.refl _ _).alloc (Nat.le_refl _) _) hp,heap_alloc_new w _,h.below ((Below.refl _ _).alloc (Nat.le_refl _) _)⟩
 have hc : W.cell? ⟨p,o,none⟩ = some mv:=by rw [cell_of_row _ _ _ _ _ _ HP.out];exact ho
 have fz : ∀ i,W.frozen? ⟨p,i,none⟩ = false:=fun i=>frozen_of_row _ _ _ _ _ HP.out
 have hmo:=@run_makeMap Tryz.prog
 have hnil:=fun (r : Option Nat) (w : World)=>run_eql_map_nil (P:=Tryz.prog) w 82 _ _ r Tryz.underlying82
 have hpw : p < w.heap.size:=(Array.getElem?_eq_some_iff.1 hp).1
 rcases HTb.out with ⟨rfl,hT⟩ | ⟨b,D,rfl,hD⟩
 ·obtain ⟨W2,hW2,HW2⟩ : ∃ W2,((W.alloc (.map #[] 0)).setCell ⟨p,o,none⟩ (.map (some W.heap.size))) = W2/\Hid (W2 = (W.alloc (.map #[] 0)).setCell ⟨p,o,none⟩ (.map (some W.heap.size))):=⟨_,rfl,rfl⟩
  have hca : ∀ o',(W.alloc o').cell? ⟨p,o,none⟩ = some (.map none):=fun o'=>cell_later ((Below.refl _ W).alloc (Nat.le_refl _) o') hc
  have fza : ∀ o' i,(W.alloc o').frozen? ⟨p,i,none⟩ = false:=fun o' i=>frozen_of_row _ _ _ _ _ (heap_later ((Below.refl _ W).alloc (Nat.le_refl _) o') HP.out)
  have hne : p ≠ W.heap.size:=by have:=HB.out.size;omega
  clear HTb h
  go_enter Tryz.func149,Tryz.ntmps149
  go_upto_region 1 with (fail)
  clear hW
  go_upto_region 3 with (fail)
  have hrow2 : W2.heap[p]? = some (.cells (row.setIfInBounds o (.map (some W.heap.size))) ty (0,0)):=by
   rw [HW2.out]
   exact heap_setCell_self (heap_later ((Below.refl _ W).alloc (Nat.le_refl _) _) HP.out) o _
  have ho' : o < row.size:=(Array.getElem?_eq_some_iff.1 ho).1
  have hpw2 : p ≠ w.heap.size:=by omega
  have hv2 : W2.heap[w.heap.size]? = some (.cells #[.slice a l c,.slice a' l' c'] 117 (0,0)):=by
   rw [HW2.out,Below.heap_setCell _ _ _ _ (fun e=>hpw2 e.symm)]
   exact heap_later ((Below.refl _ W).alloc (Nat.le_refl _) _) HV.out
  have hown2 : W2.ownsMap Tryz.prog 9 RV W.heap.size 0 (.map []):=by
   rw [HW2.out]
   exact World.ownsMap.setCell (World.ownsMap_made W Tryz.prog 9 RV) (a:=⟨p,o,none⟩) (fun e=>hne e.symm) _
  have hD2 : TabD W2 W.heap.size 0 (.map []) T:=⟨hown2,fun x z=>by rw [hT x];rfl,fun x u hu=>by rw [hT x] at hu;cases hu⟩
  obtain ⟨w',hrun,hown',hturn⟩:=World.ownsMap.store (w:=W2.drew) (t:=82) (e:=117) (d:=.held (.agg #[.slice a l c,.slice a' l' c'])) (ps:=[]) hown2.drew keyedS Tryz.underlying82 (by decide) (klS_key k hk) rfl
  have d0 : W2.cell? ⟨p,o,none⟩ = some (.map (some W.heap.size)):=by rw [cell_of_row _ _ _ _ _ _ hrow2];simp [ho']
  have d1 : W2.cell? ⟨w.heap.size,0,none⟩ = some (.slice a l c):=by rw [cell_of_row _ _ _ _ _ _ hv2];rfl
  have d2 : W2.cell? ⟨w.heap.size,1,none⟩ = some (.slice a' l' c'):=by rw [cell_of_row _ _ _ _ _ _ hv2];rfl
  have HE : Hid (TPutEnd w p o row ty (.map none) (n + 1) (upd T k (some (.agg #[.slice a l c,.slice a' l' c']))) w'):=by
   have hg:=hturn.grown
   have hsz : w.heap.size<=W.heap.size:=HB.out.size
   have hs2 : W2.heap.size = W.heap.size + 1:=by rw [HW2.out];simp [World.setCell]
   refine ⟨.map (some W.heap.size),?_,?_,?_,.inr ⟨_,rfl,hsz,?_⟩⟩
   ·rw [hg.block p (by show p < W2.heap.size;omega) (fun e=>hne (by injection e))]
    exact hrow2
   ·exact TabV.mono (.inr ⟨_,_,rfl,hD2.put k _ hSV hown'⟩) (by omega)
   ·refine ⟨hg.os.trans (by rw [HW2.out];exact HB.out.os),hg.tape.trans (by rw [HW2.out];exact HB.out.tape),hg.output.trans (by rw [HW2.out];exact HB.out.output),?_,fun i hi hz=>?_⟩
    ·have:=hg.size;have h5 : W2.heap.size<=w'.heap.size:=this;omega
    ·rw [hg.block i (by show i < W2.heap.size;omega) (fun e=>by injection e;omega)]
     show W2.heap[i]? = _
     rw [HW2.out,Below.heap_setCell _ _ _ _ (fun e=>hz (.inl e))]
     exact (heap_alloc_old' W _ i (by omega)).trans (HB.out.block i hi)
   ·have:=hg.size;have h5 : W2.heap.size<=w'.heap.size:=this;omega
  clear hc fz hca fza hpw hrow2 ho' hpw2 hv2 hown2 hD2 hT hown' hturn HP HV HW2 hmo hnil hne hp ho hk hn hSV HB
  go_region
  all_goals (go_wp2;go_end0;exact ⟨rfl,HE.out⟩)
 ·have HTb2 : Hid (TabD W b n D T):=hD
  obtain ⟨w',hrun,hown',hturn⟩:=World.ownsMap.store (w:=W.drew) (t:=82) (e:=117) (d:=.held (.agg #[.slice a l c,.slice a' l' c'])) (ps:=[]) hD.own.drew keyedS Tryz.underlying82 (by unfold maxLen;omega) (klS_key k hk) rfl
  have d1 : W.cell? ⟨w.heap.size,0,none⟩ = some (.slice a l c):=by rw [cell_of_row _ _ _ _ _ _ HV.out];rfl
  have d2 : W.cell? ⟨w.heap.size,1,none⟩ = some (.slice a' l' c'):=by rw [cell_of_row _ _ _ _ _ _ HV.out];rfl
  have hbp : b ≠ p:=fun e=>by
   subst e
   obtain ⟨es,ck,hh,_⟩:=hD.own
   rw [HP.out] at hh;cases hh
  have HE : Hid (TPutEnd w p o row ty (.map (some b)) (n + 1) (upd T k (some (.agg #[.slice a l c,.slice a' l' c']))) w'):=by
   have hg:=hturn.grown
   have hsz : w.heap.size<=W.heap.size:=HB.out.size
   have hgs : W.heap.size<=w'.heap.size:=hg.size
   refine ⟨.map (some b),?_,.inr ⟨_,_,rfl,hD.put k _ hSV hown'⟩,?_,.inl rfl⟩
   ·rw [set_same ho,hg.block p (by show p < W.heap.size;omega) (fun e=>hbp (by injection e with e;exact e.symm))]
    exact HP.out
   ·refine ⟨hg.os.trans HB.out.os,hg.tape.trans HB.out.tape,hg.output.trans HB.out.output,by omega,fun i hi hz=>?_⟩
    rw [hg.block i (by show i < W.heap.size;omega) (fun e=>hz (.inr (by injection e with e;rw [e];rfl)))]
    exact HB.out.block i hi
  clear fz hpw ho hp hD HTb HTb2 h hown' hturn HP HV hmo hbp hk hn hSV HB
  go_enter Tryz.func149,Tryz.ntmps149
  go_upto_region 1 with (fail)
  clear hW
  go_upto_region 3 with (fail)
  go_region
  all_goals (go_wp2;go_end0;exact ⟨rfl,HE.out⟩)
end Go.Proofs.YtilkdeghknjjhaaGreatDoor
namespace Go.Proofs.YtilkdeghknjjhaaGreatDoor
open Go.RowKit M Go.Maps Go.Sort Go.Shelf
def TKeys (T : ByteArray->Option Value) (ks : List ByteArray) : Prop:=ks.Pairwise (fun a b=>bl a b = true)/\∀ x,x ∈ ks ↔ T x ≠ none
theorem tKeys_any (p o : Nat) (mv : Value) (n : Nat) (T : ByteArray->Option Value) (w : World) (hc : w.cell? ⟨p,o,none⟩ = some mv) (h : TabV w mv n T) (hn : n<=1000000000) :
  Calls Tryz.prog 52 #[.pointer (some ⟨p,o,none⟩)] w fun e w'=>∃ v ks,e = .returned v/\TKeys T ks/\OwnX w' w.heap.size v ks/\Below w.heap.size w w':=by
 refine (callsIn_wide (n:=6)).1 ?_
 have hfK : Fence.wide.fn 97:=trivial
 have hfS : Fence.wide.fn 96:=trivial
 rcases h with ⟨rfl,hT⟩ | ⟨b,D,rfl,h⟩
 ·have HT : Hid (TKeys T []):=⟨List.Pairwise.nil,fun x=>by rw [hT x];simp⟩
  clear hT
  refine callsIn_of_wp Tryz.func52 rfl trivial ?_ rfl
  simp only [Tryz.ntmps52,List.size_toArray,List.length_cons,List.length_nil,Nat.reduceAdd,Nat.reduceSub,Array.replicate_succ,Array.replicate_zero,List.push_toArray,List.append_toArray,List.nil_append,List.cons_append]
  gi_wp2_with (first
   | (gi_at_call 97;refine (Tryz.maps_Keys_97 _ _).mono ?_;rintro e w' ⟨rfl,rfl⟩)
   | (gi_at_call 96;refine (Tryz.slices_Sorted_keys_nil_96_97 w).mono ?_;rintro e w' ⟨v,ss,rfl,hS,hrow,hnil,hb⟩))
  go_ret
  obtain rfl:=hnil.2 hS
  exact ⟨_,[],rfl,HT.out,World.ownsRow_nil _ _ _ _,((Below.refl _ w).alloc (Nat.le_refl _) _).trans (hb.mono (by simp))⟩
 ·have hsz : Maps.size D<=1000000000:=Nat.le_trans h.own.size_le hn
  have hown:=h.own
  have HT : Hid (TabD w b n D T):=h
  clear h
  refine callsIn_of_wp Tryz.func52 rfl trivial ?_ rfl
  simp only [Tryz.ntmps52,List.size_toArray,List.length_cons,List.length_nil,Nat.reduceAdd,Nat.reduceSub,Array.replicate_succ,Array.replicate_zero,List.push_toArray,List.append_toArray,List.nil_append,List.cons_append]
  gi_wp2_with (first
   | (gi_at_call 97;refine (Tryz.maps_Keys_97 _ _).mono ?_;rintro e w' ⟨rfl,rfl⟩)
   | (gi_at_call 96;refine (Tryz.slices_Sorted_keys_96_97 b n D RV w hown (by unfold maxLen;omega) (by omega)).mono ?_;rintro e w' ⟨v,ss,rfl,hS,hrow,hnil,hb⟩))
  go_ret
  obtain ⟨ks,h1,h2,h3,h4⟩:=sort_rising hS HT.out.nodup
  refine ⟨_,ks,rfl,⟨h3,fun x=>(h4 x).trans (HT.out.keys x)⟩,?_,((Below.refl _ w).alloc (Nat.le_refl _) _).trans (hb.mono (by simp))⟩
  unfold OwnX
  rw [h2,<- h1]
  exact ownsRow_base_a hrow (by simp)
end Go.Proofs.YtilkdeghknjjhaaGreatDoor
namespace Go.Proofs.YtilkdeghknjjhaaGreatDoor
open Go.RowKit M
def jwrite (D : Dk) (J : Jn) (t : ByteArray) : Bool × Dk × Jn :=
 if D.appends (fnm J.num) t = true then (true,D.append (fnm J.num) t,⟨J.roll,J.num,J.size + t.size,J.cut⟩) else (false,D.append (fnm J.num) t,J)
theorem write_any (Z : Nat->Prop) (j d : Nat) (D : Dk) (J : Jn) (t : ByteArray) (w : World) (h : Side Z w j d D J) (ha : Apart Z j) (hwf : D.WF) (hbu : D.Bud 1) (hn : J.num < 1000000000) (hs : J.size<=1000000000) (ht : t.size<=1000000000) :
  Calls Tryz.prog 192 #[.pointer (some ⟨j,0,none⟩),.string t] w fun e w'=>e = .returned (.bool (jwrite D J t).1)/\Side Z w' j d (jwrite D J t).2.1 (jwrite D J t).2.2/\Tr (Zj Z j) w w':=by
 have c0 : w.cell? ⟨j,0,none⟩ = some (.pointer (some ⟨d,0,none⟩)):=(h.jn.cell 0).trans rfl
 have c2 : w.cell? ⟨j,2,none⟩ = some (.int .i64 J.num):=(h.jn.cell 2).trans rfl
 have HF : Hid (∀ w1,Below w.heap.size w w1->Calls Tryz.prog 125 #[.int .i64 J.num] w1 fun e w'=>e = .returned (.string (fnm J.num))/\Below w1.heap.size w1 w'):=fun w1 h1=>fileName_any J.num w1 (by omega) (h.vs.below h1)
 have HS : Hid (∀ w1,Below w.heap.size w w1->Calls Tryz.prog 194 #[.pointer (some ⟨d,0,none⟩),.string (fnm J.num),.string t] w1 fun e w'=>e = .returned (.bool (D.appends (fnm J.num) t))/\DiskAt Z w' d (D.append (fnm J.num) t)/\Tr Z w1 w'):=fun w1 h1=>Append_any Z d D _ t w1 (h.dk.below h1) hwf.ok hbu.lt ht
 have HEnd : Hid (∀ w1 w2,Below w.heap.size w w1->Tr Z w1 w2->DiskAt Z w2 d (D.append (fnm J.num) t)->Side Z w2 j d (D.append (fnm J.num) t) J/\Tr Z w w2):=fun w1 w2 h1 h2 h3=>⟨(h.below h1).disk ha h2 h3,(below_tr h1 Z).trans h2⟩
 have HJ : Hid (jwrite D J t = if D.appends (fnm J.num) t = true then (true,D.append (fnm J.num) t,⟨J.roll,J.num,J.size + t.size,J.cut⟩) else (false,D.append (fnm J.num) t,J)):=rfl
 have hzj:=ha.z
 obtain ⟨n,hnn⟩ : ∃ n,fnm J.num = n:=⟨_,rfl⟩
 rw [hnn] at HF HS HEnd HJ
 obtain ⟨b,hb⟩ : ∃ b,D.appends n t = b:=⟨_,rfl⟩
 rw [hb] at HS HJ
 have hw0 : Below w.heap.size w w:=Below.refl _ _
 have s0 : (0 : Int)<=(J.size : Int):=by omega
 have s1 : (J.size : Int)<=1000000000:=by omega
 have s2 : (0 : Int)<=(t.size : Int):=by omega
 have s3 : (t.size : Int)<=1000000000:=by omega
 clear hnn hb h hn hwf hbu hs ht
 go_enter Tryz.func192,Tryz.ntmps192
 go_upto_region 1 with (fail)
 go_region_held3 (fun w'=>w'.cell? ⟨j,0,none⟩ = some (.pointer (some ⟨d,0,none⟩))/\w'.cell? ⟨j,2,none⟩ = some (.int .i64 J.num))
  (first | exact ⟨c0,c2⟩ | exact ⟨by assumption,by assumption⟩)
  (first
   | ((go_at_call 125;refine (HF.out _ (Below.drew hw0)).mono ?_;rintro e w1 ⟨rfl,hb1⟩;have B1:=belowN (Below.drew hw0) hb1;have f0:=cell_later B1 c0;have f2:=cell_later B1 c2))
   | ((go_at_call 194;refine (HS.out _ B1).mono ?_;rintro e w2 ⟨rfl,h2,t2⟩;have g0:=cell_tr t2 f0 hzj;have g2:=cell_tr t2 f2 hzj)))
 obtain ⟨h3,h4⟩:=HEnd.out _ _ B1 t2 h2
 have HX : Hid (Side Z w2 j d (D.append n t) J/\Tr Z w w2):=⟨h3,h4⟩
 have k3 : w2.cell? ⟨j,3,none⟩ = some (.int .i64 J.size):=(h3.jn.cell 3).trans rfl
 have fz : ∀ o,w2.frozen? ⟨j,o,none⟩ = false:=h3.jn.frozen
 clear h3 h4 h2 t2 hb1 B1 f0 f2 HEnd HS HF c0 c2
 cases b
 ·have HJ2 : Hid (jwrite D J t = (false,D.append n t,J)):=HJ
  clear HJ
  go_wp2
  go_ret
  exact ⟨by rw [HJ2.out];rfl,by rw [HJ2.out];exact HX.out.1,HX.out.2.zj j⟩
 ·have HJ2 : Hid (jwrite D J t = (true,D.append n t,⟨J.roll,J.num,J.size + t.size,J.cut⟩)):=HJ
  clear HJ
  go_wp2
  go_ret
  have h5:=HX.out.1.set ha 3 (.int .i64 ((J.size + t.size : Nat) : Int)) (HX.out.1.jn.setSize (J.size + t.size))
  exact ⟨by rw [HJ2.out];rfl,by rw [HJ2.out];exact h5,(HX.out.2.zj j).setJ 3 _⟩
end Go.Proofs.YtilkdeghknjjhaaGreatDoor
namespace Go.Proofs.YtilkdeghknjjhaaGreatDoor
open Go.RowKit M
def jneeds (J : Jn) (t : ByteArray) : Bool:=decide (J.num = 0) || J.cut || decide (J.roll < J.size + t.size)
def jappend (D : Dk) (J : Jn) (t : ByteArray) : Bool × Dk × Jn :=
 if jneeds J t = true then (if (jbegin D J).1 = true then jwrite (jbegin D J).2.1 (jbegin D J).2.2 t else (false,(jbegin D J).2.1,(jbegin D J).2.2)) else jwrite D J t
theorem jbegin_num (D : Dk) (J : Jn) : (jbegin D J).2.2.num<=J.num + 1/\(jbegin D J).2.2.size<=J.size/\(jbegin D J).2.2.roll = J.roll:=by
 unfold jbegin
 split
 ·exact ⟨by show J.num<=_;omega,Nat.le_refl _,rfl⟩
 ·split
  ·exact ⟨by show J.num<=_;omega,Nat.le_refl _,rfl⟩
  ·exact ⟨Nat.le_refl _,Nat.zero_le _,rfl⟩
theorem jAppend_any (Z : Nat->Prop) (j d : Nat) (D : Dk) (J : Jn) (m : Mt) (vc : Value) (w : World) (h : Side Z w j d D J) (ha : Apart Z j) (hz : Opn Z w) (hwf : D.WF) (hbu : D.Bud 3) (hn : J.num < 900000000) (hs : J.size<=1000000000) (hr : J.roll<=1000000000)
  (hrd : Rd w vc m.c) (hk : m.k.size<=255) (hv : m.v.size<=255) :
  Calls Tryz.prog 157 #[.pointer (some ⟨j,0,none⟩),mtV m vc] w fun e w'=>e = .returned (.bool (jappend D J (encM m)).1)/\Side Z w' j d (jappend D J (encM m)).2.1 (jappend D J (encM m)).2.2/\Tr (Zj Z j) w w':=by
 obtain ⟨del,node,count,k,c,v⟩:=m
 obtain ⟨av,lv,cv,rfl⟩ : ∃ a l cap,vc = .slice a l cap:=by obtain ⟨a,cap,h,_⟩:=hrd;exact ⟨_,_,_,h⟩
 have hts : (encM ⟨del,node,count,k,c,v⟩).size<=1000:=by
  unfold encM
  have h1:=encT_size [(node,count)]
  have h2:=encT_size c
  have h3 : ∀ t : ByteArray,t.size<=255->(szT t).size<=256:=fun t ht=>by unfold szT;rw [ByteArray.size_append];unfold byte1;rw [sz1];omega
  have h4:=h3 k hk
  have h5:=h3 v hv
  have h6 : (byte1 (if del = true then 2 else 1)).size = 1:=rfl
  simp only [ByteArray.size_append,h6]
  omega
 obtain ⟨W,hW,HE,HS,HB,hrow⟩ : ∃ W,(w.alloc (.cells #[.bool del,.int .i64 node,.int .i64 count,.string k,.slice av lv cv,.string v] 111)) = W /\
   Hid (Calls Tryz.prog 205 #[.agg #[.bool del,.int .i64 node,.int .i64 count,.string k,.slice av lv cv,.string v]] W fun e w'=>e = .returned (.string (encM ⟨del,node,count,k,c,v⟩))/\Below W.heap.size W w')/\Hid (Side Z W j d D J)/\Hid (Below w.heap.size w W)/\W.heap[w.heap.size]? = some (.cells #[.bool del,.int .i64 node,.int .i64 count,.string k,.slice av lv cv,.string v] 111 (0,0)):=by
  have hb : Below w.heap.size w (w.alloc (.cells #[.bool del,.int .i64 node,.int .i64 count,.string k,.slice av lv cv,.string v] 111)):=(Below.refl _ _).alloc (Nat.le_refl _) _
  exact ⟨_,rfl,encode_any ⟨del,node,count,k,c,v⟩ (.slice av lv cv) _ (hrd.below hb) hk hv,h.below hb,hb,heap_alloc_new w _⟩
 obtain ⟨t,ht⟩ : ∃ t,encM ⟨del,node,count,k,c,v⟩ = t:=⟨_,rfl⟩
 rw [ht] at HE hts ⊢
 have hb2:=jbegin_bud hwf hbu J
 have hw2:=jbegin_wf hwf _ hbu J
 have hjn:=jbegin_num D J
 have H1 : Hid (∀ X,Side Z X j d D J->Opn Z X->Calls Tryz.prog 191 #[.pointer (some ⟨j,0,none⟩)] X fun e w'=>e = .returned (.bool (jbegin D J).1)/\Side Z w' j d (jbegin D J).2.1 (jbegin D J).2.2/\Tr (Zj Z j) X w'):=fun X h1 h2=>begin_any Z j d D J X h1 ha h2 hwf (hbu.mono (by omega)) (by omega)
 have H2 : Hid (∀ X,Side Z X j d (jbegin D J).2.1 (jbegin D J).2.2->Calls Tryz.prog 192 #[.pointer (some ⟨j,0,none⟩),.string t] X fun e w'=>e = .returned (.bool (jwrite (jbegin D J).2.1 (jbegin D J).2.2 t).1)/\Side Z w' j d (jwrite (jbegin D J).2.1 (jbegin D J).2.2 t).2.1 (jwrite (jbegin D J).2.1 (jbegin D J).2.2 t).2.2/\Tr (Zj Z j) X w') :=
  fun X h1=>write_any Z j d _ _ t X h1 ha hw2 hb2 (by omega) (by omega) (by omega)
 have H3 : Hid (∀ X,Side Z X j d D J->Calls Tryz.prog 192 #[.pointer (some ⟨j,0,none⟩),.string t] X fun e w'=>e = .returned (.bool (jwrite D J t).1)/\Side Z w' j d (jwrite D J t).2.1 (jwrite D J t).2.2/\Tr (Zj Z j) X w') :=
  fun X h1=>write_any Z j d D J t X h1 ha hwf (hbu.mono (by omega)) (by omega) hs (by omega)
 have HJ : Hid (jappend D J t = if jneeds J t = true then (if (jbegin D J).1 = true then jwrite (jbegin D J).2.1 (jbegin D J).2.2 t else (false,(jbegin D J).2.1,(jbegin D J).2.2)) else jwrite D J t):=rfl
 obtain ⟨⟨qb,qD,qJ⟩,hq⟩ : ∃ q,jbegin D J = q:=⟨_,rfl⟩
 rw [hq] at H1 H2 HJ
 simp only at H1 H2 HJ
 obtain ⟨R1,hR1⟩ : ∃ R,jwrite qD qJ t = R:=⟨_,rfl⟩
 obtain ⟨R2,hR2⟩ : ∃ R,jwrite D J t = R:=⟨_,rfl⟩
 rw [hR1] at H2 HJ
 rw [hR2] at H3 HJ
 have HN : Hid (jneeds J t = (decide (J.num = 0) || J.cut || decide (J.roll < J.size + t.size))):=rfl
 obtain ⟨nb,hnb⟩ : ∃ b,jneeds J t = b:=⟨_,rfl⟩
 rw [hnb] at HJ HN
 have s0 : (0 : Int)<=(J.size : Int):=by omega
 have s1 : (J.size : Int)<=1000000000:=by omega
 have s2 : (0 : Int)<=(t.size : Int):=by omega
 have s3 : (t.size : Int)<=1000:=by omega
 have s4 : (J.roll : Int)<=1000000000:=by omega
 have hcw : IntKind.i64.wrap ((J.size : Int) + (t.size : Int)) = (J.size : Int) + (t.size : Int):=wrap_in _ (by omega) (by omega)
 clear ht hts hb2 hw2 hjn hq hR1 hR2 hnb h hwf hbu hn hs hr hrd hk hv
 have x0 : W.cell? ⟨w.heap.size,0,none⟩ = some (.bool del):=by rw [cell_of_row _ _ _ _ _ _ hrow];rfl
 have x1 : W.cell? ⟨w.heap.size,1,none⟩ = some (.int .i64 node):=by rw [cell_of_row _ _ _ _ _ _ hrow];rfl
 have x2 : W.cell? ⟨w.heap.size,2,none⟩ = some (.int .i64 count):=by rw [cell_of_row _ _ _ _ _ _ hrow];rfl
 have x3 : W.cell? ⟨w.heap.size,3,none⟩ = some (.string k):=by rw [cell_of_row _ _ _ _ _ _ hrow];rfl
 have x4 : W.cell? ⟨w.heap.size,4,none⟩ = some (.slice av lv cv):=by rw [cell_of_row _ _ _ _ _ _ hrow];rfl
 have x5 : W.cell? ⟨w.heap.size,5,none⟩ = some (.string v):=by rw [cell_of_row _ _ _ _ _ _ hrow];rfl
 unfold mtV
 simp only
 clear hrow
 go_enter Tryz.func157,Tryz.ntmps157
 go_wp2_with fail
 clear hW
 refine HE.out.mono ?_
 rintro e w1 ⟨rfl,hb1⟩
 have HS1 : Hid (Side Z w1 j d D J/\Below w.heap.size w w1):=⟨HS.out.below hb1,belowN HB.out hb1⟩
 have c1 : w1.cell? ⟨j,1,none⟩ = some (.int .i64 J.roll):=(HS1.out.1.jn.cell 1).trans rfl
 have c2 : w1.cell? ⟨j,2,none⟩ = some (.int .i64 J.num):=(HS1.out.1.jn.cell 2).trans rfl
 have c3 : w1.cell? ⟨j,3,none⟩ = some (.int .i64 J.size):=(HS1.out.1.jn.cell 3).trans rfl
 have c4 : w1.cell? ⟨j,4,none⟩ = some (.bool J.cut):=(HS1.out.1.jn.cell 4).trans rfl
 clear HE HS HB hb1 x0 x1 x2 x3 x4 x5
 go_upto_region 2 with (fail)
 go_cut [32] from 8 to 32 (fun v wx=>v = .bool nb/\Below w1.heap.size w1 wx)
 case first =>
  by_cases g1 : J.num = 0
  ·have g1b : ((J.num : Int) == 0) = true:=by simp [g1]
   have HR : Hid (nb = true):=by show nb = true;rw [HN.out,g1];rfl
   clear g1
   go_quiet (fail)
   go_wp2
   go_meet
   exact ⟨by rw [HR.out],below_drewN (Below.refl _ _) _⟩
  ·have g1b : ((J.num : Int) == 0) = false:=by simp [g1]
   cases g2 : J.cut
   ·rw [g2] at c4
    by_cases g3 : (J.roll : Int) < (J.size : Int) + (t.size : Int)
    ·have HR : Hid (nb = true):=by show nb = true;rw [HN.out,g2];simp;omega
     clear g1 g2
     go_quiet (fail)
     go_wp2
     go_meet
     exact ⟨by rw [HR.out],below_drewN (Below.refl _ _) _⟩
    ·have HR : Hid (nb = false):=by show nb = false;rw [HN.out,g2];simp;omega
     clear g1 g2
     go_quiet (fail)
     go_wp2
     go_meet
     exact ⟨by rw [HR.out],below_drewN (Below.refl _ _) _⟩
   ·rw [g2] at c4
    have HR : Hid (nb = true):=by show nb = true;rw [HN.out,g2];simp
    clear g1 g2
    go_quiet (fail)
    go_wp2
    go_meet
    exact ⟨by rw [HR.out],below_drewN (Below.refl _ _) _⟩
 case rest =>
  obtain ⟨rfl,hbx⟩:=hcut
  have HX : Hid (Side Z wc j d D J/\Below w.heap.size w wc):=⟨HS1.out.1.below hbx,belowN HS1.out.2 hbx⟩
  clear HS1 hbx c1 c2 c3 c4 HN
  cases nb
  ·have HJ2 : Hid (jappend D J t = R2):=HJ
   clear HJ H1 H2
   go_wp2_with fail
   refine (H3.out wc HX.out.1).mono ?_
   rintro e w2 ⟨rfl,h2,t2⟩
   go_wp2
   go_ret
   exact ⟨by rw [HJ2.out];rfl,by rw [HJ2.out];exact h2,(below_tr HX.out.2 _).trans t2⟩
  ·go_wp2_with fail
   refine (H1.out wc HX.out.1 (hz.size HX.out.2.size)).mono ?_
   rintro e w2 ⟨rfl,h2,t2⟩
   cases qb
   ·have HJ2 : Hid (jappend D J t = (false,qD,qJ)):=HJ
    clear HJ H2 H3
    go_wp2
    go_ret
    exact ⟨by rw [HJ2.out];rfl,by rw [HJ2.out];exact h2,(below_tr HX.out.2 _).trans t2⟩
   ·have HJ2 : Hid (jappend D J t = R1):=HJ
    clear HJ H3
    go_wp2_with fail
    refine (H2.out w2 h2).mono ?_
    rintro e w3 ⟨rfl,h3,t3⟩
    go_wp2
    go_ret
    exact ⟨by rw [HJ2.out];rfl,by rw [HJ2.out];exact h3,((below_tr HX.out.2 _).trans t2).trans t3⟩
end Go.Proofs.YtilkdeghknjjhaaGreatDoor
namespace Go.Proofs.YtilkdeghknjjhaaGreatDoor
open Go.RowKit M Go.Maps
variable {Y X : Nat->Prop} {w w' : World} {v dv jv mv : Value} {s n : Nat} {M : ByteArray->Se}
structure St where
 node : Int
 every : Int
 roll : Int
 M : ByteArray->Se
 cnt : Int
 held : Int
 ro : Bool
structure SetIn (Y : Nat->Prop) (w : World) (v : Value) (S : Se) : Prop where
 ex : ∃ vc vl,v = .agg #[vc,vl]/\w.ownsRow 0 183 2 vc S.C.length (cellsE S.C)/\w.ownsRow 0 122 3 vl S.L.length (cellsS S.L)/\InZ Y vc/\InZ Y vl
theorem SetIn.mono {S : Se} (h : SetIn Y w v S) (hs : ∀ k,Y k->X k) : SetIn X w v S:=by
 obtain ⟨vc,vl,rfl,h1,h2,h3,h4⟩:=h.ex
 exact ⟨vc,vl,rfl,h1,h2,fun k hk=>hs k (h3 k hk),fun k hk=>hs k (h4 k hk)⟩
theorem SetIn.tr {S : Se} (h : SetIn Y w v S) (t : Tr X w w') (hd : ∀ k,Y k->¬ X k) : SetIn Y w' v S:=by
 obtain ⟨vc,vl,rfl,h1,h2,h3,h4⟩:=h.ex
 exact ⟨vc,vl,rfl,own_tr h1 t (fun k hk=>hd k (h3 k hk)),own_tr h2 t (fun k hk=>hd k (h4 k hk)),h3,h4⟩
theorem SetIn.below {S : Se} (h : SetIn Y w v S) (t : Below w.heap.size w w') : SetIn Y w' v S:=by
 obtain ⟨vc,vl,rfl,h1,h2,h3,h4⟩:=h.ex
 exact ⟨vc,vl,rfl,own_below h1 t,own_below h2 t,h3,h4⟩
theorem SetIn.nil (Y : Nat->Prop) (w : World) : SetIn Y w zSet Se.nil:=⟨_,_,rfl,World.ownsRow_nil _ _ _ _,World.ownsRow_nil _ _ _ _,fun k hk=>by simp [Value.ownBlock] at hk,fun k hk=>by simp [Value.ownBlock] at hk⟩
structure SetsIn (Y : Nat->Prop) (w : World) (mv : Value) (n : Nat) (M : ByteArray->Se) : Prop where
 ex : ∃ T,TabV w mv n T/\∀ k,(T k = none->M k = Se.nil)/\∀ v,T k = some v->(M k).L ≠ []/\SetIn Y w v (M k)
structure StIn (Y : Nat->Prop) (w : World) (s : Nat) (dv jv mv : Value) (n : Nat) (S : St) : Prop where
 lt : ∀ k,Y k->k < w.heap.size
 ys : Y s
 ym : InM Y mv
 hs : w.heap[s]? = some (.cells #[dv,.int .i64 S.node,.int .i64 S.every,.int .i64 S.roll,jv,mv,.int .i64 S.cnt,.int .i64 S.held,.bool S.ro] 86 (0,0))
 tab : SetsIn Y w mv n S.M
theorem StIn.cell {S : St} (h : StIn Y w s dv jv mv n S) (o : Nat) :
  w.cell? ⟨s,o,none⟩ = #[dv,.int .i64 S.node,.int .i64 S.every,.int .i64 S.roll,jv,mv,.int .i64 S.cnt,.int .i64 S.held,.bool S.ro][o]?:=by rw [cell_of_row _ _ _ _ _ _ h.hs]
theorem StIn.frozen {S : St} (h : StIn Y w s dv jv mv n S) (o : Nat) : w.frozen? ⟨s,o,none⟩ = false:=frozen_of_row _ _ _ _ _ h.hs
theorem TabV.lt {T : ByteArray->Option Value} (h : TabV w mv n T) {b : Nat} (hb : mapBlock mv = some b) : b < w.heap.size/\∃ es ck,w.heap[b]? = some (.map es ck):=by
 rcases h with ⟨rfl,_⟩ | ⟨b',D,rfl,h⟩
 ·simp [mapBlock] at hb
 ·simp [mapBlock] at hb
  subst hb
  obtain ⟨es,ck,h1,_⟩:=h.own
  exact ⟨h.own.lt,es,ck,h1⟩
theorem SetsIn.tr (h : SetsIn Y w mv n M) (hm : InM Y mv) (t : Tr X w w') (hd : ∀ k,Y k->¬ X k) : SetsIn Y w' mv n M:=by
 obtain ⟨T,h1,h2⟩:=h.ex
 exact ⟨T,h1.tr t (fun k hk=>hd k (hm k hk)),fun k=>⟨(h2 k).1,fun v hv=>⟨((h2 k).2 v hv).1,((h2 k).2 v hv).2.tr t hd⟩⟩⟩
theorem SetsIn.below (h : SetsIn Y w mv n M) (t : Below w.heap.size w w') : SetsIn Y w' mv n M:=by
 obtain ⟨T,h1,h2⟩:=h.ex
 exact ⟨T,h1.below t,fun k=>⟨(h2 k).1,fun v hv=>⟨((h2 k).2 v hv).1,((h2 k).2 v hv).2.below t⟩⟩⟩
theorem SetsIn.mono {m : Nat} (h : SetsIn Y w mv n M) (hs : ∀ k,Y k->X k) (hn : n<=m) : SetsIn X w mv m M:=by
 obtain ⟨T,h1,h2⟩:=h.ex
 exact ⟨T,h1.mono hn,fun k=>⟨(h2 k).1,fun v hv=>⟨((h2 k).2 v hv).1,((h2 k).2 v hv).2.mono hs⟩⟩⟩
theorem StIn.tr {S : St} (h : StIn Y w s dv jv mv n S) (t : Tr X w w') (hd : ∀ k,Y k->¬ X k) : StIn Y w' s dv jv mv n S :=
 ⟨fun k hk=>Nat.lt_of_lt_of_le (h.lt k hk) t.size,h.ys,h.ym,t.heap h.hs (hd _ h.ys),h.tab.tr h.ym t hd⟩
theorem StIn.below {S : St} (h : StIn Y w s dv jv mv n S) (t : Below w.heap.size w w') : StIn Y w' s dv jv mv n S :=
 ⟨fun k hk=>Nat.lt_of_lt_of_le (h.lt k hk) t.size,h.ys,h.ym,heap_later t h.hs,h.tab.below t⟩
def Yn (Y : Nat->Prop) (n m : Nat) : Nat->Prop:=fun k=>Y k\/(n<=k/\k < m)
theorem StIn.wide {S : St} (h : StIn Y w s dv jv mv n S) (a : Nat) : StIn (Yn Y a w.heap.size) w s dv jv mv n S :=
 ⟨fun k hk=>hk.elim (h.lt k) (fun h=>h.2),.inl h.ys,fun k hk=>.inl (h.ym k hk),h.hs,h.tab.mono (fun k hk=>.inl hk) (Nat.le_refl _)⟩
theorem SetsIn.get (h : SetsIn Y w mv n M) (k : ByteArray) : ∃ T,TabV w mv n T/\SetIn Y w (tget T k) (M k)/\((T k).isSome = true ↔ (M k).L ≠ []):=by
 obtain ⟨T,h1,h2⟩:=h.ex
 refine ⟨T,h1,?_,?_⟩
 ·unfold tget
  cases ht : T k with
  | none=>rw [(h2 k).1 ht];exact SetIn.nil Y w
  | some v=>exact ((h2 k).2 v ht).2
 ·cases ht : T k with
  | none=>rw [(h2 k).1 ht];simp [Se.nil]
  | some v=>simpa using ((h2 k).2 v ht).1
end Go.Proofs.YtilkdeghknjjhaaGreatDoor
namespace Go.Proofs.YtilkdeghknjjhaaGreatDoor
open Go.RowKit M Go.Maps
variable {w w' : World} {X Y : Nat->Prop} {n s : Nat} {v mv : Value}
def NoRow (w : World) (X : Nat->Prop) : Prop:=∀ g cs ty,w.heap[g]? = some (.cells cs ty (0,0))->ty = 183\/ty = 122->¬ X g
theorem own_noRow {B : Nat} {e : TypeId} {sz : Nat} {xs : List Value} (h : w.ownsRow B e sz v n xs) (he : e = 183\/e = 122) (t : Tr X w w') (hx : NoRow w X) : w'.ownsRow B e sz v n xs:=by
 refine ⟨h.1,?_⟩
 rcases h.2 with hn | ⟨g,cap,cur,rfl,hb,hg,rest⟩
 ·exact .inl hn
 ·exact .inr ⟨g,cap,cur,rfl,hb,t.heap hg (hx g cur e hg he),rest⟩
theorem SetIn.noRow {S : Se} (h : SetIn Y w v S) (t : Tr X w w') (hx : NoRow w X) : SetIn Y w' v S:=by
 obtain ⟨vc,vl,rfl,h1,h2,h3,h4⟩:=h.ex
 exact ⟨vc,vl,rfl,own_noRow h1 (.inl rfl) t hx,own_noRow h2 (.inr rfl) t hx,h3,h4⟩
theorem noRow_one {row : Array Value} (hs : w.heap[s]? = some (.cells row 86 (0,0))) : NoRow w (One s):=by
 rintro g cs ty hg hty (rfl : g = s)
 rw [hs] at hg
 injection hg with hg
 injection hg with _ h2 _
 subst h2
 rcases hty with h | h <;> exact absurd h (by decide)
theorem noRow_map {T : ByteArray->Option Value} (h : TabV w mv n T) : NoRow w (fun b=>mapBlock mv = some b):=by
 intro g cs ty hg hty hb
 obtain ⟨_,es,ck,h2⟩:=h.lt hb
 rw [h2] at hg;cases hg
theorem noRow_or {A B : Nat->Prop} (h : NoRow w A) (k : NoRow w B) : NoRow w (fun b=>A b\/B b):=fun g cs ty hg hty hx=>hx.elim (h g cs ty hg hty) (k g cs ty hg hty)
theorem SetsIn.setS {M : ByteArray->Se} {row : Array Value} (h : SetsIn Y w mv n M) (hs : w.heap[s]? = some (.cells row 86 (0,0))) (o : Nat) (u : Value) : SetsIn Y (w.setCell ⟨s,o,none⟩ u) mv n M:=by
 obtain ⟨T,h1,h2⟩:=h.ex
 have t : Tr (One s) w (w.setCell ⟨s,o,none⟩ u):=(Tr.refl _ w).set1 o u
 refine ⟨T,h1.tr t (fun b hb (e : b = s)=>?_),fun k=>⟨(h2 k).1,fun v hv=>⟨((h2 k).2 v hv).1,((h2 k).2 v hv).2.noRow t (noRow_one hs)⟩⟩⟩
 obtain ⟨_,es,ck,h3⟩:=h1.lt hb
 rw [e,hs] at h3;cases h3
theorem StIn.setS {dv jv dv' jv' : Value} {S S' : St} (h : StIn Y w s dv jv mv n S) (o : Nat) (u : Value) (hM : S'.M = S.M)
  (hr : (#[dv,.int .i64 S.node,.int .i64 S.every,.int .i64 S.roll,jv,mv,.int .i64 S.cnt,.int .i64 S.held,.bool S.ro] : Array Value).setIfInBounds o u = #[dv',.int .i64 S'.node,.int .i64 S'.every,.int .i64 S'.roll,jv',mv,.int .i64 S'.cnt,.int .i64 S'.held,.bool S'.ro]) :
  StIn Y (w.setCell ⟨s,o,none⟩ u) s dv' jv' mv n S' :=
 ⟨fun k hk=>by have:=h.lt k hk;simpa [World.setCell] using this,h.ys,h.ym,by rw [heap_setCell_self h.hs,hr],by rw [hM];exact h.tab.setS h.hs o u⟩
def Rows (w w' : World) : Prop:=∀ (g : Nat) (cs : Array Value) (ty : TypeId),w.heap[g]? = some (.cells cs ty (0,0))->ty = 183\/ty = 122->w'.heap[g]? = some (.cells cs ty (0,0))
theorem Rows.trans {a b c : World} (h : Rows a b) (k : Rows b c) : Rows a c:=fun g cs ty hg hty=>k g cs ty (h g cs ty hg hty) hty
theorem rows_tr (t : Tr X w w') (hx : NoRow w X) : Rows w w':=fun g cs ty hg hty=>t.heap hg (hx g cs ty hg hty)
theorem rows_below (hb : Below w.heap.size w w') : Rows w w':=fun g cs ty hg hty=>heap_later hb hg
theorem SetIn.rows {E : Se} (h : SetIn Y w v E) (r : Rows w w') : SetIn Y w' v E:=by
 obtain ⟨vc,vl,rfl,h1,h2,h3,h4⟩:=h.ex
 refine ⟨vc,vl,rfl,⟨h1.1,?_⟩,⟨h2.1,?_⟩,h3,h4⟩
 ·rcases h1.2 with hn | ⟨g,cap,cur,rfl,hb,hg,rest⟩
  ·exact .inl hn
  ·exact .inr ⟨g,cap,cur,rfl,hb,r g cur _ hg (.inl rfl),rest⟩
 ·rcases h2.2 with hn | ⟨g,cap,cur,rfl,hb,hg,rest⟩
  ·exact .inl hn
  ·exact .inr ⟨g,cap,cur,rfl,hb,r g cur _ hg (.inr rfl),rest⟩
noncomputable def keepM (M : ByteArray->Se) (k : ByteArray) (S : Se) : ByteArray->Se:=open Classical in upd M k (if S.L = [] then Se.nil else S)
theorem keep_all (Y : Nat->Prop) (s : Nat) (dv jv mv : Value) (n : Nat) (S : St) (k : ByteArray) (v : Value) (E : Se) (c : Int) (w : World) (h : StIn Y w s dv jv mv n S) (hk : k.size<=maxLen) (hn : n < 1000000000000) (hv : SetIn Y w v E) (hE : E.L.length<=6) :
  Calls Tryz.prog 93 #[.pointer (some ⟨s,0,none⟩),.string k,v,.int .i64 c] w fun e w'=>e = .returned (.tuple #[])/\(∃ mv',StIn (Yn Y w.heap.size w'.heap.size) w' s dv jv mv' (n + 1) { S with M:=keepM S.M k E,cnt:=c })/\(Tr Y w w'/\Rows w w'):=by
 obtain ⟨vc,vl,rfl,o1,o2,z1,z2⟩:=hv.ex
 obtain ⟨a1,q1,rfl⟩:=own_shape o1
 obtain ⟨a2,q2,rfl⟩:=own_shape o2
 have hs0 : s < w.heap.size:=h.lt s h.ys
 obtain ⟨W,hW,HB,HS,HV⟩ : ∃ W,(w.alloc (.cells #[.slice a1 E.C.length q1,.slice a2 E.L.length q2] 117)) = W/\Hid (Below w.heap.size w W)/\Hid (StIn Y W s dv jv mv n S)/\Hid (SetIn Y W (.agg #[.slice a1 E.C.length q1,.slice a2 E.L.length q2]) E):=by
  have hb : Below w.heap.size w (w.alloc (.cells #[.slice a1 E.C.length q1,.slice a2 E.L.length q2] 117)):=(Below.refl _ _).alloc (Nat.le_refl _) _
  exact ⟨_,rfl,hb,h.below hb,hv.below hb⟩
 have hrow : W.heap[w.heap.size]? = some (.cells #[.slice a1 E.C.length q1,.slice a2 E.L.length q2] 117 (0,0)):=by rw [<- hW];exact heap_alloc_new w _
 have c6 : W.cell? ⟨s,6,none⟩ = some (.int .i64 S.cnt):=(HS.out.cell 6).trans rfl
 have fz : ∀ o,W.frozen? ⟨s,o,none⟩ = false:=HS.out.frozen
 obtain ⟨W1,hW1,HS1,HV1,HT1,hr1⟩ : ∃ W1,(W.setCell ⟨s,6,none⟩ (.int .i64 c)) = W1/\Hid (StIn Y W1 s dv jv mv n { S with cnt:=c })/\Hid (SetIn Y W1 (.agg #[.slice a1 E.C.length q1,.slice a2 E.L.length q2]) E)/\Hid (Tr Y w W1) /\
   W1.heap[w.heap.size]? = some (.cells #[.slice a1 E.C.length q1,.slice a2 E.L.length q2] 117 (0,0)):=by
  refine ⟨_,rfl,HS.out.setS 6 _ rfl rfl,HV.out.noRow ((Tr.refl (One s) W).set1 6 _) (noRow_one HS.out.hs),?_,?_⟩
  ·exact (below_tr HB.out Y).trans ((Tr.refl Y W).setCell (p:=⟨s,6,none⟩) HS.out.ys _)
  ·rw [Below.heap_setCell _ _ _ _ (fun e : w.heap.size = s=>by omega)];exact hrow
 have d0 : W1.cell? ⟨w.heap.size,0,none⟩ = some (.slice a1 E.C.length q1):=by rw [cell_of_row _ _ _ _ _ _ hr1];rfl
 have d1 : W1.cell? ⟨w.heap.size,1,none⟩ = some (.slice a2 E.L.length q2):=by rw [cell_of_row _ _ _ _ _ _ hr1];rfl
 have l0 : (0 : Int)<=(E.L.length : Int):=by omega
 have l1 : (E.L.length : Int)<=6:=by omega
 have hsz1 : w.heap.size<=W1.heap.size:=HT1.out.size
 have c5 : W1.cell? ⟨s,5,none⟩ = some mv:=(HS1.out.cell 5).trans rfl
 have HRw : Hid (Rows w W1):=(rows_below HB.out).trans (by rw [<- hW1];exact rows_tr ((Tr.refl (One s) W).set1 6 _) (noRow_one HS.out.hs))
 clear hrow h hv o1 o2 z1 z2 HS HV hr1
 obtain ⟨T,hT1,hT2⟩:=HS1.out.tab.ex
 by_cases hl : E.L = []
 ·have hlb : ((E.L.length : Int) == 0) = true:=by simp [hl]
  have hM : Hid (∀ x,keepM S.M k E x = if x = k then Se.nil else S.M x):=fun x=>by unfold keepM upd;rw [if_pos hl]
  have HD : Hid (Calls Tryz.prog 156 #[.pointer (some ⟨s,5,none⟩),.string k] W1 fun e w'=>e = .returned (.tuple #[])/\TabV w' mv n (upd T k none)/\Tr (fun b=>mapBlock mv = some b) W1 w'):=tDelete_any s 5 mv n T k W1 c5 hT1 hk
  have HEnd : Hid (∀ w',TabV w' mv n (upd T k none)->Tr (fun b=>mapBlock mv = some b) W1 w'->(∃ mv',StIn (Yn Y w.heap.size w'.heap.size) w' s dv jv mv' (n + 1) { S with M:=keepM S.M k E,cnt:=c })/\(Tr Y w w'/\Rows w w')):=by
   intro w' g1 g2
   refine ⟨⟨mv,fun x hx=>?_,.inl HS1.out.ys,fun x hx=>.inl (HS1.out.ym x hx),g2.heap HS1.out.hs (fun hb=>?_),⟨upd T k none,g1.mono (by omega),fun x=>⟨fun hx=>?_,fun v hx=>?_⟩⟩⟩,⟨HT1.out.trans (g2.mono fun x _ hx=>HS1.out.ym x hx),HRw.out.trans (rows_tr g2 (noRow_map hT1))⟩⟩
   ·rcases hx with hx | hx
    ·exact Nat.lt_of_lt_of_le (HS1.out.lt x hx) g2.size
    ·exact hx.2
   ·obtain ⟨_,es,ck,h3⟩:=hT1.lt hb
    rw [HS1.out.hs] at h3;cases h3
   ·show keepM S.M k E x = Se.nil
    rw [hM.out x]
    by_cases e : x = k
    ·rw [if_pos e]
    ·rw [if_neg e];rw [upd_other _ _ e] at hx;exact (hT2 x).1 hx
   ·by_cases e : x = k
    ·rw [e,upd_same] at hx;cases hx
    ·rw [upd_other _ _ e] at hx
     show (keepM S.M k E x).L ≠ []/\SetIn _ w' v (keepM S.M k E x)
     rw [hM.out x,if_neg e]
     obtain ⟨h5,h6⟩:=(hT2 x).2 v hx
     exact ⟨h5,(h6.noRow g2 (noRow_map hT1)).mono fun q hq=>.inl hq⟩
  clear hM hl hT1 hT2 HS1 HV1 HT1 HB
  go_enter Tryz.func93,Tryz.ntmps93
  go_upto_region 1 with (fail)
  clear hW
  go_upto_region 2 with (fail)
  clear hW1
  go_wp2_with fail
  refine HD.out.mono ?_
  rintro e w' ⟨rfl,g1,g2⟩
  obtain ⟨g3,g4⟩:=HEnd.out w' g1 g2
  go_wp2
  refine bodyPost_ret (results_none rfl _ _ _) rfl ?_
  exact ⟨rfl,g3,g4⟩
 ·have hlb : ((E.L.length : Int) == 0) = false:=by
   have:=List.length_pos_iff.2 hl
   simp;omega
  have hM : Hid (∀ x,keepM S.M k E x = if x = k then E else S.M x):=fun x=>by unfold keepM upd;rw [if_neg hl]
  have HE : Hid (E.L ≠ []):=hl
  have b0 : Below W1.heap.size W1 W1.drew:=Below.drew (Below.refl _ _)
  have HP : Hid (Calls Tryz.prog 149 #[.pointer (some ⟨s,5,none⟩),.string k,.agg #[.slice a1 E.C.length q1,.slice a2 E.L.length q2]] W1.drew fun e w'=>e = .returned (.tuple #[])/\TPutEnd W1.drew s 5 #[dv,.int .i64 S.node,.int .i64 S.every,.int .i64 S.roll,jv,mv,.int .i64 c,.int .i64 S.held,.bool S.ro] 86 mv (n + 1) (upd T k (some (.agg #[.slice a1 E.C.length q1,.slice a2 E.L.length q2]))) w') :=
   tPut_any s 5 _ _ mv n T k _ W1.drew HS1.out.hs rfl (hT1.below b0) hk hn ⟨_,_,_,_,_,_,rfl⟩
  have HEnd : Hid (∀ w',TPutEnd W1.drew s 5 #[dv,.int .i64 S.node,.int .i64 S.every,.int .i64 S.roll,jv,mv,.int .i64 c,.int .i64 S.held,.bool S.ro] 86 mv (n + 1) (upd T k (some (.agg #[.slice a1 E.C.length q1,.slice a2 E.L.length q2]))) w' ->
    (∃ mv',StIn (Yn Y w.heap.size w'.heap.size) w' s dv jv mv' (n + 1) { S with M:=keepM S.M k E,cnt:=c })/\(Tr Y w w'/\Rows w w')):=by
   rintro w' ⟨mv',g1,g2,g3,g4⟩
   have g5 : Tr (fun b=>b = s\/mapBlock mv = some b) W1 w':=⟨g3.os,g3.tape,g3.output,g3.size,g3.block⟩
   have hnr : NoRow W1 (fun b=>b = s\/mapBlock mv = some b):=noRow_or (noRow_one HS1.out.hs) (noRow_map hT1)
   have h6 : W1.heap.size<=w'.heap.size:=g5.size
   refine ⟨⟨mv',fun x hx=>?_,.inl HS1.out.ys,fun x hx=>?_,g1,⟨upd T k (some (.agg #[.slice a1 E.C.length q1,.slice a2 E.L.length q2])),g2,fun x=>⟨fun hx=>?_,fun v hx=>?_⟩⟩⟩,⟨HT1.out.trans (g5.mono fun x _ hx=>?_),HRw.out.trans (rows_tr g5 hnr)⟩⟩
   ·rcases hx with hx | hx
    ·exact Nat.lt_of_lt_of_le (HS1.out.lt x hx) h6
    ·exact hx.2
   ·rcases g4 with rfl | ⟨b,rfl,g7,g8⟩
    ·exact .inl (HS1.out.ym x hx)
    ·simp [mapBlock] at hx
     subst hx
     have g9 : W1.heap.size<=b:=g7
     exact .inr ⟨by omega,g8⟩
   ·show keepM S.M k E x = Se.nil
    rw [hM.out x]
    by_cases e : x = k
    ·rw [e,upd_same] at hx;cases hx
    ·rw [if_neg e];rw [upd_other _ _ e] at hx;exact (hT2 x).1 hx
   ·show (keepM S.M k E x).L ≠ []/\SetIn _ w' v (keepM S.M k E x)
    by_cases e : x = k
    ·rw [e,upd_same] at hx
     cases hx
     rw [hM.out x,if_pos e]
     exact ⟨HE.out,(HV1.out.noRow g5 hnr).mono fun q hq=>.inl hq⟩
    ·rw [upd_other _ _ e] at hx
     rw [hM.out x,if_neg e]
     obtain ⟨h5,h6⟩:=(hT2 x).2 v hx
     exact ⟨h5,(h6.noRow g5 hnr).mono fun q hq=>.inl hq⟩
   ·rcases hx with rfl | hx
    ·exact HS1.out.ys
    ·exact HS1.out.ym x hx
  have y0 : W1.drew.cell? ⟨w.heap.size,0,none⟩ = some (.slice a1 E.C.length q1):=d0
  have y1 : W1.drew.cell? ⟨w.heap.size,1,none⟩ = some (.slice a2 E.L.length q2):=d1
  clear hM hl hT1 hT2 HS1 HV1 HT1 HB HE
  go_enter Tryz.func93,Tryz.ntmps93
  go_upto_region 1 with (fail)
  clear hW
  go_upto_region 2 with (fail)
  clear hW1
  go_upto_region 4 with (fail)
  go_region_with (first
   | (go_at_call 149;refine HP.out.mono ?_;rintro e w' ⟨rfl,g1⟩))
  all_goals
   obtain ⟨g3,g4⟩:=HEnd.out _ g1
   go_wp2
   go_end0
   exact ⟨rfl,g3,g4⟩
theorem keep_any (Y : Nat->Prop) (s : Nat) (dv jv mv : Value) (n : Nat) (S : St) (k : ByteArray) (v : Value) (E : Se) (c : Int) (w : World) (h : StIn Y w s dv jv mv n S) (hk : k.size<=maxLen) (hn : n < 1000000000000) (hv : SetIn Y w v E) (hE : E.L.length<=6) :
  Calls Tryz.prog 93 #[.pointer (some ⟨s,0,none⟩),.string k,v,.int .i64 c] w fun e w'=>e = .returned (.tuple #[])/\(∃ mv',StIn (Yn Y w.heap.size w'.heap.size) w' s dv jv mv' (n + 1) { S with M:=keepM S.M k E,cnt:=c })/\Tr Y w w':=by
 refine (keep_all Y s dv jv mv n S k v E c w h hk hn hv hE).mono ?_
 rintro e w' ⟨he,h1,h2,_⟩
 exact ⟨he,h1,h2⟩
end Go.Proofs.YtilkdeghknjjhaaGreatDoor
