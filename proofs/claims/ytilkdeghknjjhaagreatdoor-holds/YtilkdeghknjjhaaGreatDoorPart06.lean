/- A part of the proof. -/
import Derived.Test.YtilkdeghknjjhaaGreatDoorPart04
set_option maxRecDepth 20000
set_option maxHeartbeats 3200000
set_option linter.unusedVariables false
namespace Go.Proofs.YtilkdeghknjjhaaGreatDoor
open Go.RowKit M
set_option maxRecDepth 40000 in
theorem Insert_grow (B g cap : Nat) (cur : List Value) (l : List Sb) (x : Sb) (g2 c2 k : Nat) (w : World) (hB : B<=w.heap.size) (hg : w.heap[g]? = some (.cells cur.toArray 122 (0,0))) (hsz : cur.length = cap * 3)
  (htk : cur.take (l.length * 3) = cellsS l) (hcl : l.length<=cap) (hl : l.length<=1000) (hk : k < l.length) (hroom : cap < l.length + 1)
  (hx : w.heap[g2]? = some (.cells #[Value.int .i64 x.n,Value.int .i64 x.c,Value.string x.v] 122 (0,0))) :
  Calls Tryz.prog 235 #[.slice (some ⟨g,0,none⟩) l.length cap,.int .i64 (k : Int),.slice (some ⟨g2,0,none⟩) 1 c2] w fun e w'=>∃ v',e = .returned v'/\w'.ownsRow B 122 3 v' (l.length + 1) (cellsS (put l k x))/\Below B w w':=by
 obtain ⟨i0,hi,hz0,hz1,hz2⟩:=info_parts Tryz.info122
 obtain rfl : cap = l.length:=by omega
 have hl1 : (l.length : Int)<=1000:=by omega
 have hgw : g < w.heap.size:=(Array.getElem?_eq_some_iff.1 hg).1
 have hxw : g2 < w.heap.size:=(Array.getElem?_eq_some_iff.1 hx).1
 have hd3 : (cellsS (l.drop k)).length = (l.length - k) * 3:=by rw [cellsS_len];simp
 have ht3 : (cellsS (l.take k)).length = k * 3:=by rw [cellsS_len];simp;omega
 have hcur : cur = cellsS l:=by rw [<- htk,List.take_of_length_le (by omega)]
 have hold : (Builtin.firstCells i0.size k (.slice (some ⟨g,0,none⟩) k l.length)).run Tryz.prog w.drew = .ok (cellsS (l.take k)).toArray w.drew :=
  run_firstCells_some w.drew i0.size k ⟨g,0,none⟩ k l.length (cellsS (l.take k)) (by rw [hz1,ht3]) (fun j u hu=>by
   rw [Addr.add_lit,cell_of_row w.drew _ _ _ _ _ hg,hcur,Nat.zero_add]
   rw [<- cellsS_take l k (by omega),List.getElem?_take] at hu
   split at hu
   ·simpa using hu
   ·cases hu)
 obtain ⟨G,hG⟩ : ∃ G,grownCap w (l.length + 1) l.length 122 = G:=⟨_,rfl⟩
 have hGn : l.length + 1<=G:=by rw [<- hG];exact grownCap_ge _ _ _ _
 have hGm : G<=maxLen:=by rw [<- hG];exact grownCap_le_maxLen _ _ _ _ (by unfold maxLen;omega)
 have hGm' : G<=9223372036854775807:=by simp only [maxLen] at hGm;omega
 obtain ⟨R0,hR0⟩ : ∃ R0 : List Value,cellsS (l.take k) ++ (Builtin.zeroCells (Value.agg #[.int .i64 0,.int .i64 0,.string ByteArray.empty]).cells (l.length + 1 - k)).toList ++ (Builtin.zeroCells (Value.agg #[.int .i64 0,.int .i64 0,.string ByteArray.empty]).cells (G - (l.length + 1))).toList = R0:=⟨_,rfl⟩
 have hR0l : R0.length = G * 3:=by
  rw [<- hR0]
  simp only [List.length_append,ht3,Array.length_toList,Builtin.zeroCells,Array.size_map,Array.size_range,Value.cells]
  simp only [List.size_toArray,List.length_cons,List.length_nil]
  omega
 have hR0t : R0.take (k * 3) = cellsS (l.take k):=by
  rw [<- hR0,List.append_assoc]
  refine (List.take_append_of_le_length (by omega)).trans (List.take_of_length_le (by omega))
 have happ : ∀ ty,(Builtin.append_ #[115,3] ty #[.slice (some ⟨g,0,none⟩) k l.length,.int .i64 ((l.length : Int) + 1 - (k : Int))]).run Tryz.prog w =
   .ok (.slice (some ⟨w.heap.size,0,none⟩) (l.length + 1) G) (w.drew.alloc (.cells R0.toArray 122)):=fun ty=>by
  have h:=Lib.run_append_grow_zeros (P:=Tryz.prog) w 115 3 ty 122 i0 _ .i64 .i64 Tryz.underlying115 Tryz.underlying3 hi hz0 (some ⟨g,0,none⟩) k l.length (cellsS (l.take k)) hold (l.length + 1 - k) (by omega) (by omega) (by omega) (by omega) (by rw [hz2];omega) (by rw [hz2];exact growslice_fits (by omega) (by omega))
  rw [show k + (l.length + 1 - k) = l.length + 1 by omega,show (((l.length + 1 - k : Nat)) : Int) = (l.length : Int) + 1 - (k : Int) by omega,hG] at h
  rw [h,<- hR0]
  congr 3
  apply Array.ext'
  simp
 obtain ⟨W1,hW1⟩ : ∃ W1,w.drew.alloc (.cells R0.toArray 122) = W1:=⟨_,rfl⟩
 have hn1 : W1.heap[w.heap.size]? = some (.cells R0.toArray 122 (0,0)):=by rw [<- hW1];exact heap_alloc_new w.drew _
 have hg1 : W1.heap[g]? = some (.cells cur.toArray 122 (0,0)):=by rw [<- hW1];exact (heap_alloc_old w.drew _ hgw).trans hg
 have hx1 : W1.heap[g2]? = some (.cells #[Value.int .i64 x.n,Value.int .i64 x.c,Value.string x.v] 122 (0,0)):=by rw [<- hW1];exact (heap_alloc_old w.drew _ hxw).trans hx
 have hb1' : Below B w W1:=by rw [<- hW1];exact (Below.refl B w).drew.alloc hB _
 have hneg : g ≠ w.heap.size:=by omega
 have hnex : g2 ≠ w.heap.size:=by omega
 rw [hW1] at happ
 clear hW1
 obtain ⟨N,hN⟩ : ∃ N,w.heap.size = N:=⟨_,rfl⟩
 have hBN : B<=N:=by omega
 rw [hN] at happ hn1 hneg hnex
 have hr2 : ∀ ty,(Builtin.copy_ #[115,115] ty #[.slice (some ⟨N,k * 3,none⟩) (l.length + 1 - k) (G - k),.slice (some ⟨g2,0,none⟩) 1 c2]).run Tryz.prog W1 =
   .ok (goInt ((1 : Nat) : Int)) (W1.setRow N (R0.take (k * 3) ++ [Value.int .i64 x.n,Value.int .i64 x.c,Value.string x.v] ++ R0.drop (k * 3 + 3)).toArray):=fun ty =>
  run_copy_into _ 115 115 ty 122 3 N (k * 3) (l.length + 1 - k) (G - k) 1 ⟨g2,0,none⟩ 1 c2 R0 122 [Value.int .i64 x.n,Value.int .i64 x.c,Value.string x.v] Tryz.underlying115 size57 hn1 (by simp only [Nat.min_def];split <;> omega) rfl
   (fun j u hu=>by rw [Addr.add_lit,cell_of_row _ _ _ _ _ _ hx1];simpa using hu) (by rw [hR0l];simp;omega) (fun u hu=>by simp at hu;rcases hu with rfl | rfl | rfl <;> rfl)
 rw [hR0t] at hr2
 obtain ⟨R1,hR1⟩ : ∃ R1,cellsS (l.take k) ++ [Value.int .i64 x.n,Value.int .i64 x.c,Value.string x.v] ++ R0.drop (k * 3 + 3) = R1:=⟨_,rfl⟩
 rw [hR1] at hr2
 have hR1l : R1.length = G * 3:=by
  rw [<- hR1]
  simp only [List.length_append,ht3,List.length_drop,hR0l,List.length_cons,List.length_nil]
  omega
 have hR1t : R1.take ((k + 1) * 3) = cellsS (l.take k) ++ [Value.int .i64 x.n,Value.int .i64 x.c,Value.string x.v]:=by
  rw [<- hR1]
  refine (List.take_append_of_le_length ?_).trans (List.take_of_length_le ?_)
  ·simp only [List.length_append,ht3,List.length_cons,List.length_nil];omega
  ·simp only [List.length_append,ht3,List.length_cons,List.length_nil];omega
 have hn2 : (W1.setRow N R1.toArray).heap[N]? = some (.cells R1.toArray 122 (0,0)):=setRow_heap W1 N _ _ 122 _ hn1
 have hg2 : (W1.setRow N R1.toArray).heap[g]? = some (.cells cur.toArray 122 (0,0)):=(setRow_other W1 N g _ hneg).trans hg1
 have hr3 : ∀ ty,(Builtin.copy_ #[115,115] ty #[.slice (some ⟨N,(k + 1) * 3,none⟩) (l.length + 1 - (k + 1)) (G - (k + 1)),.slice (some ⟨g,k * 3,none⟩) (l.length - k) (l.length - k)]).run Tryz.prog (W1.setRow N R1.toArray).drew =
   .ok (goInt ((l.length - k : Nat) : Int)) ((W1.setRow N R1.toArray).drew.setRow N (R1.take ((k + 1) * 3) ++ cellsS (l.drop k) ++ R1.drop ((k + 1) * 3 + (cellsS (l.drop k)).length)).toArray):=fun ty =>
  run_copy_into _ 115 115 ty 122 3 N ((k + 1) * 3) (l.length + 1 - (k + 1)) (G - (k + 1)) (l.length - k) ⟨g,k * 3,none⟩ (l.length - k) (l.length - k) R1 122 (cellsS (l.drop k)) Tryz.underlying115 size57 hn2 (by simp only [Nat.min_def];split <;> omega) hd3
   (fun j u hu=>by
    rw [Addr.add_lit,cell_of_row (W1.setRow N R1.toArray).drew _ _ _ _ _ hg2,hcur]
    rw [<- cellsS_drop l k (by omega),List.getElem?_drop] at hu
    simpa using hu) (by rw [hd3,hR1l];omega) (one_cellsS _)
 rw [hR1t] at hr3
 obtain ⟨R2,hR2⟩ : ∃ R2,cellsS (l.take k) ++ [Value.int .i64 x.n,Value.int .i64 x.c,Value.string x.v] ++ cellsS (l.drop k) ++ R1.drop ((k + 1) * 3 + (cellsS (l.drop k)).length) = R2:=⟨_,rfl⟩
 rw [hR2] at hr3
 have hfin : ((W1.setRow N R1.toArray).drew.setRow N R2.toArray).ownsRow B 122 3 (.slice (some ⟨N,0,none⟩) (l.length + 1) G) (l.length + 1) (cellsS (put l k x)):=by
  refine ⟨by rw [cellsS_len,put_len l k x (by omega)],.inr ⟨N,G,R2.toArray,rfl,hBN,setRow_heap _ _ _ _ _ _ hn2,hGn,hGm,?_,?_⟩⟩
  ·rw [List.size_toArray,<- hR2]
   simp only [List.length_append,ht3,hd3,List.length_drop,hR1l,List.length_cons,List.length_nil]
   omega
  ·show R2.take ((l.length + 1) * 3) = _
   rw [cellsS_put,<- hR2]
   refine (List.take_append_of_le_length ?_).trans (List.take_of_length_le ?_)
   ·simp only [List.length_append,ht3,hd3,List.length_cons,List.length_nil];omega
   ·simp only [List.length_append,ht3,hd3,List.length_cons,List.length_nil];omega
 have hbel : Below B w ((W1.setRow N R1.toArray).drew.setRow N R2.toArray):=below_setRow (below_setRow hb1' hBN _).drew hBN _
 have HF : Hid (((W1.setRow N R1.toArray).drew.setRow N R2.toArray).ownsRow B 122 3 (.slice (some ⟨N,0,none⟩) (l.length + 1) G) (l.length + 1) (cellsS (put l k x))/\Below B w ((W1.setRow N R1.toArray).drew.setRow N R2.toArray)):=⟨hfin,hbel⟩
 have H1 : Hid (∀ ty,(Builtin.append_ #[115,3] ty #[.slice (some ⟨g,0,none⟩) k l.length,.int .i64 ((l.length : Int) + 1 - (k : Int))]).run Tryz.prog w =
   .ok (.slice (some ⟨N,0,none⟩) (l.length + 1) G) W1):=happ
 have H2 : Hid (∀ ty,(Builtin.copy_ #[115,115] ty #[.slice (some ⟨N,k * 3,none⟩) (l.length + 1 - k) (G - k),.slice (some ⟨g2,0,none⟩) 1 c2]).run Tryz.prog W1 = .ok (goInt ((1 : Nat) : Int)) (W1.setRow N R1.toArray)):=hr2
 have H3 : Hid (∀ ty,(Builtin.copy_ #[115,115] ty #[.slice (some ⟨N,(k + 1) * 3,none⟩) (l.length + 1 - (k + 1)) (G - (k + 1)),.slice (some ⟨g,k * 3,none⟩) (l.length - k) (l.length - k)]).run Tryz.prog (W1.setRow N R1.toArray).drew = .ok (goInt ((l.length - k : Nat) : Int)) ((W1.setRow N R1.toArray).drew.setRow N R2.toArray)):=hr3
 have s2 : ¬ ((k : Int) = (l.length : Int)):=by omega
 have s2' : ((k : Int) == (l.length : Int)) = false:=by simp;omega
 have s3 : ¬ l.length = k:=by omega
 have s4 : ¬ G = k + 1:=by omega
 have s7 : ¬ G = k:=by omega
 have s5 : (k : Int)<=(G : Int):=by omega
 have s6 : (k : Int) + 1<=(G : Int):=by omega
 have hw1 : IntKind.i64.wrap ((k : Int) + 1) = (k : Int) + 1:=by rw [IntKind.wrap_i64];omega
 have hb1 : (0 : Int)<=(k : Int) + 1:=by omega
 have htn : ((k : Int) + 1).toNat = k + 1:=by omega
 have hb3 : (k : Int)<=(l.length : Int):=by omega
 have hb4 : (k : Int)<=(l.length : Int) + 1:=by omega
 have hb5 : (k : Int) + 1<=(l.length : Int) + 1:=by omega
 clear hfin hbel hr2 hr3 happ hg hx htk hsz hcur hold hd3 ht3 hR0 hR0l hR0t hR1 hR1l hR1t hR2 hg1 hx1 hg2 hn1 hn2 hG hGm hb1' hi hz0 hz1 hz2
 go_enter Tryz.func235,Tryz.ntmps235
 go_wp2_with (first
  | (refine wpList_append_known _ rfl _ _ 115 3 rfl (.slice (some ⟨g,0,none⟩) k l.length) (.int .i64 ((l.length : Int) + 1 - (k : Int))) rfl rfl H1.out ?_)
  | (refine wpList_copy_known _ rfl _ _ 115 115 rfl (.slice (some ⟨N,k * 3,none⟩) (l.length + 1 - k) (G - k)) (.slice (some ⟨g2,0,none⟩) 1 c2) rfl rfl H2.out ?_))
 go_region_law (refine step_copy_known rfl _ _ 115 115 rfl (.slice (some ⟨N,(k + 1) * 3,none⟩) (l.length + 1 - (k + 1)) (G - (k + 1))) (.slice (some ⟨g,k * 3,none⟩) (l.length - k) (l.length - k)) (by simp [Act.eval,Act.put]) (by simp [Act.eval,Act.put]) H3.out ?_)
 go_wp2
 go_ret
 exact ⟨_,rfl,HF.out.1,HF.out.2⟩
end Go.Proofs.YtilkdeghknjjhaaGreatDoor
namespace Go.Proofs.YtilkdeghknjjhaaGreatDoor
open Go.RowKit M
theorem ownsRow_below {w w' : World} {B n : Nat} {e : TypeId} {size : Nat} {v : Value} {xs : List Value} (h : w.ownsRow B e size v n xs) (hb : Below w.heap.size w w') : w'.ownsRow B e size v n xs:=by
 refine ⟨h.1,?_⟩
 rcases h.2 with hn | ⟨g,cap,cur,rfl,h1,h2,rest⟩
 ·exact .inl hn
 ·exact .inr ⟨g,cap,cur,rfl,h1,(hb.block g (Array.getElem?_eq_some_iff.1 h2).1).trans h2,rest⟩
theorem Insert_any (B : Nat) (v : Value) (l : List Sb) (x : Sb) (g2 c2 k : Nat) (w : World) (hB : B<=w.heap.size) (hown : w.ownsRow B 122 3 v l.length (cellsS l)) (hl : l.length<=1000) (hk : k<=l.length)
  (hne : v.ownBlock ≠ some g2) (hx : w.heap[g2]? = some (.cells #[Value.int .i64 x.n,Value.int .i64 x.c,Value.string x.v] 122 (0,0))) :
  Calls Tryz.prog 235 #[v,.int .i64 (k : Int),.slice (some ⟨g2,0,none⟩) 1 c2] w fun e w'=>∃ v',e = .returned v'/\w'.ownsRow B 122 3 v' (l.length + 1) (cellsS (put l k x))/\Below B w w':=by
 by_cases he : k = l.length
 ·subst he
  exact Insert_end B v l x g2 c2 w hB hown hl (fun j u hu=>by rw [Addr.add_lit,cell_of_row _ _ _ _ _ _ hx];simpa using hu)
 ·rcases hown.2 with ⟨_,h0⟩ | ⟨g,cap,cur,rfl,h1,h2,h3,h4,h5,h6⟩
  ·omega
  ·have hne' : g2 ≠ g:=by
    intro h
    subst h
    exact hne rfl
   by_cases hroom : l.length + 1<=cap
   ·exact Insert_shift B g cap cur.toList l x g2 c2 k w h1 hB (by simpa using h2) (by simpa using h5) (by simpa using h6) h4 hl (by omega) hroom hne' hx
   ·exact Insert_grow B g cap cur.toList l x g2 c2 k w hB (by simpa using h2) (by simpa using h5) (by simpa using h6) h3 hl (by omega) (by omega) hx
def Place (l : List Sb) (x : Sb) (k : Nat) : Prop:=k<=l.length/\(0 < k->cd (sb l (k - 1)) x < 0)/\(k < l.length->0<=cd (sb l k) x)
def InsEnd (B : Nat) (w : World) (l : List Sb) (x : Sb) (e : Ending) (w' : World) : Prop :=
 ∃ k v',e = .returned v'/\Place l x k/\w'.ownsRow B 122 3 v' (l.length + 1) (cellsS (put l k x))/\Below B w w'
set_option maxRecDepth 40000 in
theorem insert_any (B : Nat) (v : Value) (l : List Sb) (x : Sb) (w : World) (hB : B<=w.heap.size) (hown : w.ownsRow B 122 3 v l.length (cellsS l)) (hl : l.length<=1000) :
  Calls Tryz.prog 204 #[v,.agg #[.int .i64 x.n,.int .i64 x.c,.string x.v]] w fun e w'=>InsEnd B w l x e w':=by
 have hlt:=hown.lt
 go_enter Tryz.func204,Tryz.ntmps204
 go_wp2_with fail
 obtain ⟨W,hW,hb,t0,t1,t2⟩ : ∃ W,(w.alloc (.cells #[.int .i64 x.n,.int .i64 x.c,.string x.v] 122)) = W/\Below w.heap.size w W /\
   W.cell? ⟨w.heap.size,0,none⟩ = some (.int .i64 x.n)/\W.cell? ⟨w.heap.size,1,none⟩ = some (.int .i64 x.c)/\W.cell? ⟨w.heap.size,2,none⟩ = some (.string x.v) :=
  ⟨_,rfl,(Below.refl _ _).alloc (Nat.le_refl _) _,by simp [go_sem],by simp [go_sem],by simp [go_sem]⟩
 have hown1 : W.ownsRow B 122 3 v l.length (cellsS l):=ownsRow_below hown hb
 rw [hW]
 go_wp2_with fail
 refine (BinarySearch_any v l x W (RdS.own hown1 rfl) hl).mono ?_
 rintro e w1 ⟨k,f,rfl,hk,hk1,hk2,hb2⟩
 have e0:=cell_later hb2 t0
 have e1:=cell_later hb2 t1
 have e2:=cell_later hb2 t2
 have hown2 : w1.ownsRow B 122 3 v l.length (cellsS l):=ownsRow_below hown1 hb2
 have hs1:=hb.size
 have hs2:=hb2.size
 have hb3 : Below B w w1:=(hb.mono hB).trans (hb2.mono (by omega))
 have HP : Hid (Place l x k):=⟨hk,hk1,hk2⟩
 have HO : Hid (w1.ownsRow B 122 3 v l.length (cellsS l)):=hown2
 have HL : Hid (∀ j,v.ownBlock = some j->B<=j/\j < w.heap.size):=hlt
 clear hown hown1 hown2 hlt t0 t1 t2 hW hk1 hk2
 go_wp2_with fail
 refine (Insert_any B v l x w1.heap.size _ k _ (by simp;omega) (HO.out.alloc _) hl hk (fun h=>by have:=(HL.out _ h).2;omega) (heap_alloc_new w1 _)).mono ?_
 rintro e w2 ⟨v',rfl,ho,hb4⟩
 go_wp2
 go_ret
 exact ⟨k,v',rfl,HP.out,ho,hb3.trans (((Below.refl _ _).alloc (by omega) _).trans hb4)⟩
end Go.Proofs.YtilkdeghknjjhaaGreatDoor
namespace Go.Proofs.YtilkdeghknjjhaaGreatDoor
open Go.RowKit M
def un (c : List (Int × Int)) (l : List Sb) : List Sb:=l.filter fun x=>! decide (x.c<=cS c x.n)
theorem un_snoc (c : List (Int × Int)) (l : List Sb) (k : Nat) (h : k < l.length) : un c (l.take (k + 1)) = if (sb l k).c<=cS c (sb l k).n then un c (l.take k) else un c (l.take k) ++ [sb l k]:=by
 have e : l.take (k + 1) = l.take k ++ [sb l k]:=by rw [sb_get l k h,List.take_succ_eq_append_getElem h]
 rw [e]
 unfold un
 rw [List.filter_append]
 by_cases hs : (sb l k).c<=cS c (sb l k).n
 ·rw [if_pos hs];simp [hs]
 ·rw [if_neg hs];simp [hs]
theorem un_len (c : List (Int × Int)) (l : List Sb) (k : Nat) : (un c (l.take k)).length<=k :=
 Nat.le_trans (List.length_filter_le _ _) (by simp;omega)
theorem cells_three_new (w : World) (a b s : Value) (e : TypeId) : ∀ j u,[a,b,s][j]? = some u->(w.alloc (.cells #[a,b,s] e)).cell? ((⟨w.heap.size,0,none⟩ : Addr).add j) = some u:=by
 intro j u hu
 rw [Addr.add_lit,cell_of_row _ _ _ _ _ _ (heap_alloc_new w _)]
 simpa using hu
set_option maxRecDepth 40000 in
theorem unseen_any (v vc : Value) (l : List Sb) (c : List (Int × Int)) (w : World) (hrd : RdS w v l) (hrc : Rd w vc c) (hc : US c) (hl : l.length<=1000) (hd : ∀ x ∈ l,1<=x.c) :
  Calls Tryz.prog 203 #[v,vc] w fun e w'=>∃ v',e = .returned v'/\w'.ownsRow w.heap.size 122 3 v' (un c l).length (cellsS (un c l))/\Below w.heap.size w w':=by
 obtain ⟨i0,hi,hz0,hz1,hz2⟩:=info_parts Tryz.info122
 obtain ⟨a,cap,rfl,hlc,hcp,hA⟩:=hrd
 have hl1 : (l.length : Int)<=1000:=by omega
 clear hlc hcp
 go_enter Tryz.func203,Tryz.ntmps203
 go_wp2
 go_loopw [5,10] (fun p q wr=>∃ k : Nat,k<=l.length/\q = .int .i64 k/\wr.ownsRow w.heap.size 122 3 p (un c (l.take k)).length (cellsS (un c (l.take k)))/\Below w.heap.size w wr)
  (fun _ q _=>l.length - (intOf q).toNat)
 case atStart=>exact ⟨0,Nat.zero_le _,rfl,World.ownsRow_nil _ _ _ _,Below.refl _ _⟩
 case round =>
  obtain ⟨k,hk,rfl,ho,hb⟩:=hrel
  have hsz:=hb.size
  have hvl : ∃ a5 cap5,u5 = .slice a5 (un c (l.take k)).length cap5:=by
   rcases ho.2 with ⟨h1,h2⟩ | ⟨g,cap,cur,h1,_⟩
   ·exact ⟨none,0,by rw [h1,h2]⟩
   ·exact ⟨_,_,h1⟩
  obtain ⟨a5,cap5,rfl⟩:=hvl
  by_cases hlt : k < l.length
  ·obtain ⟨b,off,rfl,hr⟩:=hA (by omega)
   have q1 : (k : Int) < (l.length : Int):=by omega
   have q0 : (0 : Int)<=(k : Int):=by omega
   have e0:=cell_later hb (hr k hlt).1
   have e1:=cell_later hb (hr k hlt).2.1
   have e2:=cell_later hb (hr k hlt).2.2
   have hx1 : 1<=(sb l k).c:=by rw [sb_get l k hlt];exact hd _ (List.getElem_mem hlt)
   have hlen:=un_len c l k
   have hs:=un_snoc c l k hlt
   have HS : Hid (un c (l.take (k + 1)) = if (sb l k).c<=cS c (sb l k).n then un c (l.take k) else un c (l.take k) ++ [sb l k]):=hs
   obtain ⟨x,hx⟩ : ∃ x,sb l k = x:=⟨_,rfl⟩
   rw [hx] at e0 e1 e2 hx1 HS
   obtain ⟨U,hU⟩ : ∃ U,un c (l.take k) = U:=⟨_,rfl⟩
   rw [hU] at ho hlen HS
   obtain ⟨m,hm⟩ : ∃ m,U.length = m:=⟨_,rfl⟩
   rw [hm] at ho hlen
   rw [hU,hm]
   clear hA hr hs hx hU
   go_wp2_with fail
   have hbW:=hb.alloc hsz (.cells #[.int .i64 x.n,.int .i64 x.c,.string x.v] 122)
   have hoW:=ho.alloc (.cells #[.int .i64 x.n,.int .i64 x.c,.string x.v] 122)
   obtain ⟨W,hW,t0,t1,t2⟩ : ∃ W,(wr.alloc (.cells #[.int .i64 x.n,.int .i64 x.c,.string x.v] 122)) = W /\
     W.cell? ⟨wr.heap.size,0,none⟩ = some (.int .i64 x.n)/\W.cell? ⟨wr.heap.size,1,none⟩ = some (.int .i64 x.c)/\W.cell? ⟨wr.heap.size,2,none⟩ = some (.string x.v) :=
    ⟨_,rfl,by simp [go_sem],by simp [go_sem],by simp [go_sem]⟩
   rw [hW] at hbW hoW
   rw [hW]
   refine (seen_any vc c x.n x.c W (hrc.below hbW) hc hx1).mono ?_
   rintro e w1 ⟨rfl,hb2⟩
   have f0:=cell_later hb2 t0
   have f1:=cell_later hb2 t1
   have f2:=cell_later hb2 t2
   have ho1:=ownsRow_below hoW hb2
   have hb1 : Below w.heap.size w w1:=hbW.trans (hb2.mono hbW.size)
   have hs1:=hb1.size
   clear e0 e1 e2 t0 t1 t2 hW hbW hoW ho hb hb2
   by_cases hsn : x.c<=cS c x.n
   ·have HU : Hid (un c (l.take (k + 1)) = U):=by
     show _ = _
     rw [HS.out,if_pos hsn]
    have gd : decide (x.c<=cS c x.n) = true:=by simpa using hsn
    rw [gd]
    clear gd hsn HS
    go_wp2
    go_roundw
    case rel=>exact ⟨k + 1,by omega,by go_num,by rw [HU.out,hm];exact ho1,hb1⟩
    case measure=>simp [intOf];omega
   ·have HU : Hid (un c (l.take (k + 1)) = U ++ [x]):=by
     show _ = _
     rw [HS.out,if_neg hsn]
    have gd : decide (x.c<=cS c x.n) = false:=by simpa using hsn
    rw [gd]
    clear gd hsn HS
    go_wp2_with (first
     | (at_builtin;refine wpList_append_own _ rfl _ _ 115 rfl w.heap.size 122 i0 (.agg #[.int .i64 0,.int .i64 0,.string ByteArray.empty]) 3 32 Tryz.underlying115 hi hz0 hz1 hz2 rfl (by decide) _ _ _ rfl (ho1.alloc _) ⟨w1.heap.size,0,none⟩ 1 1 [.int .i64 x.n,.int .i64 x.c,.string x.v] rfl rfl ?c1 ?c2 ?c3 ?c4 ?c5 ?_))
    case c1=>exact cells_three_new _ _ _ _ _
    case c2=>intro u hu;simp at hu;rcases hu with rfl | rfl | rfl <;> rfl
    case c3=>unfold maxLen;omega
    case c4=>omega
    case c5=>simp;omega
    ·intro v' w2 hown' hgrow _
     have hb3 : Below w.heap.size w w2:=(hb1.alloc (by omega) _).grown hgrow (by simp;omega) (fun q hq=>(ho1.lt q hq).1)
     go_wp2
     go_roundw
     case rel=>exact ⟨k + 1,by omega,by go_num,by rw [HU.out,List.length_append,cellsS_snoc,hm];exact hown',hb3⟩
     case measure=>simp [intOf];omega
  ·have he : k = l.length:=by omega
   subst he
   rw [List.take_length] at ho
   rw [List.take_length]
   clear hA
   go_wp2
   go_ret
   exact ⟨_,rfl,ho,hb⟩
end Go.Proofs.YtilkdeghknjjhaaGreatDoor
