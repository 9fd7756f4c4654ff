/- A part of the proof. -/
import Derived.Test.YtilkdeghknjjhaaGreatDoorPart01
import Derived.BigRegion
import Derived.Laws.CopyOwn
import Derived.Deep.RegionHeld3
set_option maxRecDepth 20000
set_option maxHeartbeats 3200000
set_option linter.unusedVariables false
namespace Go.Proofs.YtilkdeghknjjhaaGreatDoor
open Go.RowKit M
def ap (F : Nat->Int) (l : List (Int × Int)) : Nat->Nat->Int
 | 0=>F
 | k + 1=>fun n=>if (ent l k).1 = (n : Int) then (if ap F l k n < (ent l k).2 then (ent l k).2 else ap F l k n) else ap F l k n
def apAll (ls : List (List (Int × Int))) : Nat->Nat->Int
 | 0=>fun _=>0
 | j + 1=>ap (apAll ls j) (ls.getD j []) (ls.getD j []).length
def entsTo (F : Nat->Int) : Nat->List (Int × Int)
 | 0=>[]
 | k + 1=>if 0 < F k then entsTo F k ++ [((k : Int),F k)] else entsTo F k
def arr (F : Nat->Int) : Array Value:=((List.range 16).map fun n=>Value.int .i64 (F n)).toArray
theorem arr_size (F : Nat->Int) : (arr F).size = 16:=by simp [arr]
theorem arr_at (F : Nat->Int) (n : Nat) (h : n < 16) : (arr F)[n]? = some (.int .i64 (F n)):=by
 simp [arr,h]
theorem Tryz.info3 : (Tryz.prog.info? 3).map (fun i=>(i.zero,i.size,i.bytes)) = some (some (.int .i64 0),1,8):=by kernel_rfl
theorem index_arr (F : Nat->Int) (k : Nat) (h : k < 16) (w : World) : (Instr.index 241 (.agg (arr F)) (.int .i64 (k : Int))).run Tryz.prog w = .ok (.int .i64 (F k)) w:=by
 obtain ⟨i,hi,hz0,hz1,hz2⟩:=info_parts Tryz.info3
 have h2 : ¬ 16<=k:=by omega
 simp [Instr.index,asIntOf,run_underlying Tryz.underlying241,part,isAgg,run_underlying Tryz.underlying3,sizeOf,typeInfo,hi,hz1,arr_at F k h]
 intro h3
 exact absurd h3 h2
theorem arr_set (F G : Nat->Int) (k : Nat) (x : Int) (hG : ∀ n,G n = if n = k then x else F n) : (arr F).setIfInBounds k (.int .i64 x) = arr G:=by
 apply Array.ext (by simp [arr])
 intro i h1 h2
 have h3 : i < 16:=by simpa [arr] using h2
 have h4 : i < (arr F).size:=by rw [arr_size];exact h3
 rw [Array.getElem_setIfInBounds h4]
 split
 ·subst_vars;simp [arr,hG]
 ·rename_i hne;simp [arr,hG,show ¬ i = k from fun e=>hne e.symm]
theorem entsTo_len (F : Nat->Int) : ∀ k,(entsTo F k).length<=k
 | 0=>Nat.le_refl _
 | k + 1=>by have:=entsTo_len F k;unfold entsTo;split <;> simp <;> omega
theorem info61 : (Tryz.prog.info? 241).map (·.size) = some 16:=by kernel_rfl
theorem join_any (g n : Nat) (ls : List (List (Int × Int))) (w : World) (hn : ls.length = n) (hn8 : n<=8)
  (hls : ∀ j,j < n->∃ v,w.cell? ⟨g,j,none⟩ = some v/\Rd w v (ls.getD j [])/\Up (ls.getD j []) (ls.getD j []).length) :
  Calls Tryz.prog 202 #[.slice (some ⟨g,0,none⟩) n n] w fun e w'=>Below w.heap.size w w' /\
   ((8 < (entsTo (apAll ls n) 16).length/\e = .returned (.tuple #[.slice none 0 0,.int .i64 5])) \/
    ((entsTo (apAll ls n) 16).length<=8/\∃ v,e = .returned (.tuple #[v,.int .i64 0])/\w'.ownsRow w.heap.size 183 2 v (entsTo (apAll ls n) 16).length (cellsE (entsTo (apAll ls n) 16)))):=by
 obtain ⟨i0,hi,hz0,hz1,hz2⟩:=info_parts Tryz.info183
 go_enter Tryz.func202,Tryz.ntmps202
 have hg : ∀ j,j < n->g < w.heap.size:=fun j hj=>by obtain ⟨v,hv,_⟩:=hls j hj;exact World.block_lt_of_cell? w _ hv
 go_wp2_with fail
 go_loopw [6,14] (fun _ i wr=>∃ j : Nat,j<=n/\i = .int .i64 j/\wr.heap[w.heap.size]? = some (.cells (arr (apAll ls j)) 241 (0,0))/\Below w.heap.size w wr)
  (fun _ i _=>n - (intOf i).toNat)
 case atStart=>exact ⟨0,Nat.zero_le _,rfl,heap_alloc_new _ _,(Below.refl _ _).alloc (Nat.le_refl _) _⟩
 case round =>
  obtain ⟨j,hj,rfl,hcb,hb⟩:=hrel
  have hsz:=hb.size
  by_cases hlt : j < n
  ·obtain ⟨v,hv,hrd,hup⟩:=hls j hlt
   have cv : wr.cell? ⟨g,j,none⟩ = some v:=cell_later hb hv
   obtain ⟨a,cap,rfl,hlc,hc,hA⟩:=hrd
   have HS : Hid (apAll ls (j + 1) = ap (apAll ls j) (ls.getD j []) (ls.getD j []).length):=rfl
   generalize ls.getD j [] = l at *
   generalize apAll ls j = F at *
   clear hls hv
   go_wp2_with fail
   obtain ⟨wo,rfl⟩ : ∃ wo : World,wo = wr:=⟨_,rfl⟩
   go_loopw [8,20] (fun _ i wr=>∃ k : Nat,k<=l.length/\i = .int .i64 k/\wr.heap[w.heap.size]? = some (.cells (arr (ap F l k)) 241 (0,0))/\Below w.heap.size w wr)
    (fun _ i _=>l.length - (intOf i).toNat)
   case atStart=>exact ⟨0,Nat.zero_le _,rfl,hcb,hb⟩
   case round =>
    obtain ⟨k,hk,rfl,hcb2,hb2⟩:=hrel
    have hsz2:=hb2.size
    have hlt2 : w.heap.size < wr.heap.size:=(Array.getElem?_eq_some_iff.1 hcb2).1
    by_cases hkl : k < l.length
    ·obtain ⟨b,off,rfl,hr⟩:=hA (by omega)
     have hd:=(hup k hkl).1
     obtain ⟨nd,hnd⟩ : ∃ nd : Nat,(ent l k).1 = nd:=⟨(ent l k).1.toNat,by have:=hd.1;omega⟩
     have hnd16 : nd < 16:=by have:=hd.2.1;omega
     have c1 : wr.cell? ⟨b,off + k * 2,none⟩ = some (.int .i64 (nd : Int)):=by
      have:=cell_later hb2 (hr k hkl).1
      rw [hnd] at this;exact this
     have c2 : wr.cell? ⟨b,off + k * 2 + 1,none⟩ = some (.int .i64 (ent l k).2):=cell_later hb2 (hr k hkl).2
     have ca : ∀ o,(wr.alloc o).cell? ⟨w.heap.size,nd,none⟩ = some (.int .i64 (ap F l k nd)):=fun o=>by
      rw [cell_of_row _ _ _ _ _ _ ((Below.heap_alloc wr o _ hlt2).trans hcb2)];exact arr_at _ _ hnd16
     have cf : ∀ o,(wr.alloc o).frozen? ⟨w.heap.size,nd,none⟩ = false:=fun o=>frozen_of_row _ _ _ _ _ ((Below.heap_alloc wr o _ hlt2).trans hcb2)
     have HN : Hid ((ent l k).1 = nd):=hnd
     clear hA hr hnd hcb hb
     go_wp2_with fail
     go_region
     go_wp2
     go_roundw
     case rel =>
      refine ⟨k + 1,by omega,by go_num,?_,?_⟩
      ·show ((wr.setCell _ _).alloc _).heap[w.heap.size]? = _
       rw [Below.heap_alloc _ _ _ (by simpa [World.setCell] using hlt2),heap_setCell_same _ _ _ _ _ _ hcb2]
       congr 2
       refine arr_set _ _ _ _ (fun n=>?_)
       have hN:=HN.out
       show (if (ent l k).1 = (n : Int) then _ else _) = _
       rw [hN]
       by_cases e : n = nd
       ·subst e;simp
       ·rw [if_neg (by omega),if_neg e]
      ·exact ((hb2.setCell (by simp) _).alloc (by simpa [World.setCell] using hsz2) _).drew
     case measure=>simp [intOf];omega
    ·obtain rfl : k = l.length:=by omega
     clear hA cv hg
     go_wp2_with fail
     go_roundw
     case rel=>exact ⟨j + 1,by omega,by go_num,by rw [HS.out];exact hcb2,hb2⟩
     case measure=>simp [intOf];omega
  ·obtain rfl : j = n:=by omega
   obtain ⟨F,hF⟩ : ∃ F,apAll ls j = F:=⟨_,rfl⟩
   rw [hF] at hcb
   have HF : Hid (apAll ls j = F):=hF
   clear hls hF
   go_wp2_with (first | refine wpList_load_row rfl 241 _ rfl w.heap.size rfl 241 (arr F) (0,0) _ hcb Tryz.underlying241 rfl (by rw [arr_size];exact info61) ?_)
   clear hcb
   go_loopw [9,10,11,37] (fun v _ _ i wr=>∃ k : Nat,k<=16/\i = .int .i64 k/\wr.ownsRow w.heap.size 183 2 v (entsTo F k).length (cellsE (entsTo F k))/\Below w.heap.size w wr)
    (fun _ _ _ i _=>16 - (intOf i).toNat)
   case atStart=>exact ⟨0,Nat.zero_le _,rfl,World.ownsRow_nil _ _ _ _,hb⟩
   case round =>
    obtain ⟨k,hk,rfl,ho,hb2⟩:=hrel
    have hsz2:=hb2.size
    have hel:=entsTo_len F k
    by_cases hlt : k < 16
    ·have hidx:=fun w=>index_arr F k hlt w
     by_cases hF : 0 < F k
     ·have HE : Hid (entsTo F (k + 1) = entsTo F k ++ [((k : Int),F k)]):=by show _ = _;simp [entsTo,hF]
      go_wp2_with (first
       | (at_builtin;refine wpList_append_own _ rfl _ _ 109 rfl w.heap.size 183 i0 (.agg #[.int .i64 0,.int .i64 0]) 2 16 Tryz.underlying109 hi hz0 hz1 hz2 rfl (by decide) _ _ _ rfl (ho.alloc _) ⟨wr.heap.size,0,none⟩ 1 1 [.int .i64 (k : Int),.int .i64 (F k)] rfl rfl ?c1 ?c2 ?c3 ?c4 ?c5 ?_))
      case c1=>exact cell_two_new _ _ _ _
      case c2=>intro u hu;simp at hu;rcases hu with rfl | rfl <;> rfl
      case c3=>unfold maxLen;omega
      case c4=>omega
      case c5=>simp;omega
      ·intro v' w2 hown' hgrow _
       have hb3 : Below w.heap.size w w2:=(hb2.alloc (by omega) _).grown hgrow (by simp;omega) (fun q hq=>(ho.lt q hq).1)
       go_wp2
       go_roundw
       case rel=>exact ⟨k + 1,by omega,by go_num,by rw [HE.out,List.length_append,cellsE_snoc];exact hown',hb3⟩
       case measure=>simp [intOf];omega
     ·have HE : Hid (entsTo F (k + 1) = entsTo F k):=by show _ = _;simp [entsTo,hF]
      go_wp2
      go_roundw
      case rel=>exact ⟨k + 1,by omega,by go_num,by rw [HE.out];exact ho,hb2⟩
      case measure=>simp [intOf];omega
    ·obtain rfl : k = 16:=by omega
     have hvl : ∃ a cap,u9 = .slice a (entsTo F 16).length cap:=by
      rcases ho.2 with ⟨h1,h2⟩ | ⟨g,cap,cur,h1,_⟩
      ·exact ⟨none,0,by rw [h1,h2]⟩
      ·exact ⟨_,_,h1⟩
     obtain ⟨a9,cap9,rfl⟩:=hvl
     by_cases h8 : 8 < (entsTo F 16).length
     ·go_wp2
      go_ret2
      rw [HF.out]
      exact ⟨hb2,.inl ⟨h8,rfl⟩⟩
     ·go_wp2
      go_ret2
      rw [HF.out]
      exact ⟨hb2,.inr ⟨by omega,_,rfl,ho⟩⟩
end Go.Proofs.YtilkdeghknjjhaaGreatDoor
namespace Go.Proofs.YtilkdeghknjjhaaGreatDoor
open Go.RowKit M
def cS : List (Int × Int)->Int->Int
 | [],_=>0
 | e :: r,n=>max (if e.1 = n then e.2 else 0) (cS r n)
theorem cS_nonneg : ∀ l n,0<=cS l n
 | [],_=>Int.le_refl _
 | e :: r,n=>by have:=cS_nonneg r n;unfold cS;omega
theorem cS_append : ∀ (l : List (Int × Int)) (e : Int × Int) (n : Int),cS (l ++ [e]) n = max (cS l n) (if e.1 = n then e.2 else 0)
 | [],e,n=>by simp only [List.nil_append,cS];omega
 | x :: r,e,n=>by simp only [List.cons_append,cS,cS_append r e n];omega
theorem take_snoc' (l : List (Int × Int)) (k : Nat) (h : k < l.length) : l.take (k + 1) = l.take k ++ [ent l k]:=by
 rw [List.take_succ_eq_append_getElem h]
 simp [ent,List.getD,List.getElem?_eq_getElem h]
theorem ap_eq (F : Nat->Int) (l : List (Int × Int)) (n : Nat) (hF : 0<=F n) : ∀ k,k<=l.length->ap F l k n = max (F n) (cS (l.take k) n)
 | 0,_=>by simp only [ap,List.take_zero,cS];omega
 | k + 1,h=>by
  have ih:=ap_eq F l n hF k (by omega)
  rw [take_snoc' l k h,cS_append]
  simp only [ap]
  split <;> (try split) <;> omega
theorem ap_all (F : Nat->Int) (l : List (Int × Int)) (n : Nat) (hF : 0<=F n) : ap F l l.length n = max (F n) (cS l n):=by
 rw [ap_eq F l n hF _ (Nat.le_refl _),List.take_length]
def US (l : List (Int × Int)) : Prop:=l.Pairwise (fun a b=>a.1 < b.1)/\∀ e ∈ l,Dot e.1 e.2
theorem ent_get (l : List (Int × Int)) (i : Nat) (h : i < l.length) : ent l i = l[i]:=by simp [ent,List.getD,List.getElem?_eq_getElem h]
theorem up_lt {l : List (Int × Int)} (h : Up l l.length) (i : Nat) : ∀ d,i + d + 1 < l.length->(ent l i).1 < (ent l (i + d + 1)).1
 | 0,hd=>by have:=(h (i + 1) hd).2 (by omega);simpa using this
 | d + 1,hd=>by
  have a:=up_lt h i d (by omega)
  have b:=(h (i + (d + 1) + 1) hd).2 (by omega)
  rw [show i + (d + 1) + 1 - 1 = i + d + 1 by omega] at b
  omega
theorem US.of_up {l : List (Int × Int)} (h : Up l l.length) : US l:=by
 refine ⟨List.pairwise_iff_getElem.2 fun i j hi hj hij=>?_,fun e he=>?_⟩
 ·obtain ⟨d,rfl⟩ : ∃ d,j = i + d + 1:=⟨j - i - 1,by omega⟩
  have:=up_lt h i d hj
  rw [ent_get l i hi,ent_get l _ hj] at this
  exact this
 ·obtain ⟨i,hi,rfl⟩:=List.getElem_of_mem he
  have:=(h i hi).1
  rw [ent_get l i hi] at this
  exact this
theorem US.up {l : List (Int × Int)} (h : US l) : Up l l.length:=by
 intro j hj
 rw [ent_get l j hj]
 refine ⟨h.2 _ (List.getElem_mem hj),fun h0=>?_⟩
 rw [ent_get l (j - 1) (by omega)]
 exact List.pairwise_iff_getElem.1 h.1 (j - 1) j (by omega) hj (by omega)
theorem clk_iff (l : List (Int × Int)) : Clk l ↔ l.length<=8/\US l:=⟨fun h=>⟨h.1,US.of_up h.2⟩,fun h=>⟨h.1,h.2.up⟩⟩
theorem cS_none : ∀ {l : List (Int × Int)} {n : Int},(∀ e ∈ l,e.1 ≠ n)->cS l n = 0
 | [],_,_=>rfl
 | e :: r,n,h=>by
  have a:=cS_none (l:=r) (n:=n) (fun x hx=>h x (List.mem_cons_of_mem _ hx))
  have b:=h e List.mem_cons_self
  unfold cS
  rw [a,if_neg b];rfl
theorem cS_mem : ∀ {l : List (Int × Int)} {e : Int × Int},US l->e ∈ l->cS l e.1 = e.2
 | [],_,_,h=>absurd h (by simp)
 | x :: r,e,hu,h=>by
  obtain ⟨hp,hd⟩:=hu
  rw [List.pairwise_cons] at hp
  have hdx:=hd x List.mem_cons_self
  rcases List.mem_cons.1 h with rfl | h
  ·have : cS r e.1 = 0:=cS_none (fun y hy=>by have:=hp.1 y hy;omega)
   unfold cS
   rw [this,if_pos rfl]
   have:=hdx.2.2.1;omega
  ·have ih:=cS_mem (l:=r) ⟨hp.2,fun y hy=>hd y (List.mem_cons_of_mem _ hy)⟩ h
   have:=hp.1 e h
   unfold cS
   rw [ih,if_neg (by omega)]
   have:=(hd e (List.mem_cons_of_mem _ h)).2.2.1;omega
theorem mem_entsTo (F : Nat->Int) (e : Int × Int) : ∀ k,e ∈ entsTo F k ↔ ∃ n,n < k/\0 < F n/\e = ((n : Int),F n)
 | 0=>by simp [entsTo]
 | k + 1=>by
  have ih:=mem_entsTo F e k
  unfold entsTo
  split
  ·rename_i hF
   rw [List.mem_append,ih]
   constructor
   ·rintro (⟨n,h1,h2⟩ | h)
    ·exact ⟨n,by omega,h2⟩
    ·simp at h;exact ⟨k,by omega,hF,h⟩
   ·rintro ⟨n,h1,h2,h3⟩
    by_cases e1 : n = k
    ·subst e1;exact .inr (by simp [h3])
    ·exact .inl ⟨n,by omega,h2,h3⟩
  ·rename_i hF
   rw [ih]
   constructor
   ·rintro ⟨n,h1,h2⟩;exact ⟨n,by omega,h2⟩
   ·rintro ⟨n,h1,h2,h3⟩
    exact ⟨n,by by_cases e1 : n = k;(subst e1;exact absurd h2 hF);omega,h2,h3⟩
def jn (ls : List (List (Int × Int))) : List (Int × Int):=entsTo (apAll ls ls.length) 16
def mxS (ls : List (List (Int × Int))) (n : Int) : Nat->Int
 | 0=>0
 | j + 1=>max (mxS ls n j) (cS (ls.getD j []) n)
theorem mxS_nonneg (ls : List (List (Int × Int))) (n : Int) : ∀ j,0<=mxS ls n j
 | 0=>Int.le_refl _
 | j + 1=>by have:=mxS_nonneg ls n j;unfold mxS;omega
theorem apAll_eq (ls : List (List (Int × Int))) (n : Nat) : ∀ j,apAll ls j n = mxS ls n j
 | 0=>rfl
 | j + 1=>by
  have ih:=apAll_eq ls n j
  unfold apAll mxS
  rw [ap_all _ _ _ (by rw [ih];exact mxS_nonneg _ _ _),ih]
end Go.Proofs.YtilkdeghknjjhaaGreatDoor
namespace Go.Proofs.YtilkdeghknjjhaaGreatDoor
open Go.RowKit M
variable {w : World} {v : Value}
theorem seen_any (v : Value) (l : List (Int × Int)) (n c : Int) (w : World) (hrd : Rd w v l) (hu : US l) (h1 : 1<=c) :
  Calls Tryz.prog 152 #[v,.int .i64 n,.int .i64 c] w fun e w'=>e = .returned (.bool (decide (c<=cS l n)))/\Below w.heap.size w w':=by
 obtain ⟨a,cap,rfl,hlc,hc,hA⟩:=hrd
 have hl1 : (l.length : Int)<=9223372036854775807:=by omega
 clear hlc hc
 go_enter Tryz.func152,Tryz.ntmps152
 go_wp2
 go_loopw [8,11] (fun _ i wr=>∃ k : Nat,k<=l.length/\i = .int .i64 k/\Hid (∀ e ∈ l.take k,e.1 ≠ n)/\Below w.heap.size w wr)
  (fun _ i _=>l.length - (intOf i).toNat)
 case atStart=>exact ⟨0,Nat.zero_le _,rfl,fun e h=>by simp at h,Below.refl _ _⟩
 case round =>
  obtain ⟨k,hk,rfl,he,hb⟩:=hrel
  have hsz:=hb.size
  by_cases hlt : k < l.length
  ·obtain ⟨b,off,rfl,hr⟩:=hA (by omega)
   have hmem : ent l k ∈ l:=by rw [ent_get l k hlt];exact List.getElem_mem hlt
   have hcs:=cS_mem hu hmem
   have hts:=take_snoc' l k hlt
   have HM : Hid (cS l (ent l k).1 = (ent l k).2/\l.take (k + 1) = l.take k ++ [ent l k]):=⟨hcs,hts⟩
   have c1 : wr.cell? ⟨b,off + k * 2,none⟩ = some (.int .i64 (ent l k).1):=cell_later hb (hr k hlt).1
   have c2 : wr.cell? ⟨b,off + k * 2 + 1,none⟩ = some (.int .i64 (ent l k).2):=cell_later hb (hr k hlt).2
   have HU : Hid (US l):=hu
   clear hA hr hcs hts hmem hu
   by_cases hn : (ent l k).1 = n
   ·have hn' : ((ent l k).1 == n) = true:=by simp [hn]
    have HN : Hid ((ent l k).1 = n):=hn
    clear hn
    go_wp2
    go_ret
    refine ⟨?_,by repeat (first | exact hb | refine below_drewN ?_ _ | refine Below.drew ?_ | refine Below.setCell ?_ (by first | omega | (simp;omega)) _ | refine Below.alloc ?_ (by first | omega | (simp;omega)) _)⟩
    have hN:=HN.out
    rw [<- hN,HM.out.1]
    rfl
   ·have hn' : ((ent l k).1 == n) = false:=by simp [hn]
    have HN : Hid (¬ (ent l k).1 = n):=hn
    clear hn
    go_wp2
    go_roundw
    case rel=>exact ⟨k + 1,by omega,by go_num,fun e hx=>by
     rw [HM.out.2] at hx
     rcases List.mem_append.1 hx with h | h
     ·exact he.out e h
     ·simp at h;subst h;exact HN.out,by repeat (first | exact hb | refine below_drewN ?_ _ | refine Below.drew ?_ | refine Below.setCell ?_ (by first | omega | (simp;omega)) _ | refine Below.alloc ?_ (by first | omega | (simp;omega)) _)⟩
    case measure=>simp [intOf];omega
  ·have hkk : k = l.length:=by omega
   have h0 : cS l n = 0:=cS_none (fun e hx=>he.out e (by rw [hkk,List.take_length];exact hx))
   have HF : Hid (decide (c<=cS l n) = false):=decide_eq_false (by rw [h0];omega)
   clear h0 hkk
   go_wp2
   go_ret
   exact ⟨by rw [HF.out];rfl,hb⟩
theorem Covers_any (v : Value) (l : List (Int × Int)) (n c : Int) (w : World) (hrd : Rd w v l) :
  Calls Tryz.prog 89 #[v,.int .i64 n,.int .i64 c] w fun e w'=>∃ r,e = .returned (.bool r)/\(r = true ↔ Clk l/\Dot n c/\c<=cS l n)/\Below w.heap.size w w':=by
 go_enter Tryz.func89,Tryz.ntmps89
 go_wp2_with fail
 refine (isClock_any v l _ hrd).mono ?_
 rintro e w1 ⟨r,rfl,hr,hb⟩
 have hrd1:=hrd.below hb
 have hsz:=hb.size
 cases r
 ·have HN : Hid (¬ Clk l):=fun h=>Bool.noConfusion (hr.2 h)
  clear hr
  go_wp2
  go_ret
  exact ⟨false,rfl,by simp;intro h;exact absurd h HN.out,hb⟩
 ·have hk : Clk l:=hr.1 rfl
  have HK : Hid (Clk l):=hk
  clear hr hk
  go_wp2_with fail
  refine (isDot_any n c _).mono ?_
  rintro e w2 ⟨rfl,rfl⟩
  by_cases hd : dotB n c = true
  ·have hdd:=(dotB_iff _ _).1 hd
   have h1 : 1<=c:=hdd.2.2.1
   rw [hd]
   have HD : Hid (Dot n c):=hdd
   clear hd hdd
   go_wp2_with fail
   refine (seen_any v l n c _ hrd1 ((clk_iff l).1 HK.out).2 h1).mono ?_
   rintro e w3 ⟨rfl,hb3⟩
   go_wp2
   go_ret
   exact ⟨_,rfl,by simp [HK.out,HD.out],hb.trans (hb3.mono hsz)⟩
  ·have hd' : dotB n c = false:=by simpa using hd
   have HD : Hid (¬ Dot n c):=fun h=>hd ((dotB_iff _ _).2 h)
   rw [hd']
   clear hd hd'
   go_wp2
   go_ret
   exact ⟨false,rfl,by simp;intro _ h;exact absurd h HD.out,hb⟩
def JoinEnd (w : World) (l m : List (Int × Int)) (e : Ending) (w' : World) : Prop :=
 ((¬ Clk l\/¬ Clk m)/\e = .returned (.tuple #[.slice none 0 0,.int .i64 1])) \/
 (Clk l/\Clk m/\8 < (jn [l,m]).length/\e = .returned (.tuple #[.slice none 0 0,.int .i64 5])) \/
 (Clk l/\Clk m/\(jn [l,m]).length<=8/\∃ v,e = .returned (.tuple #[v,.int .i64 0])/\w'.ownsRow w.heap.size 183 2 v (jn [l,m]).length (cellsE (jn [l,m])))
theorem own_base {B B' e size n : Nat} {xs : List Value} (h : w.ownsRow B' e size v n xs) (hB : B<=B') : w.ownsRow B e size v n xs :=
 ⟨h.1,h.2.imp id (fun ⟨g,cap,cur,a,b,c⟩=>⟨g,cap,cur,a,Nat.le_trans hB b,c⟩)⟩
theorem Rd.shape {l : List (Int × Int)} (h : Rd w v l) : ∃ a cap,v = .slice a l.length cap:=by
 obtain ⟨a,cap,hv,_⟩:=h
 exact ⟨a,cap,hv⟩
end Go.Proofs.YtilkdeghknjjhaaGreatDoor
namespace Go.Proofs.YtilkdeghknjjhaaGreatDoor
open Go.RowKit M
section
variable {P : Program}
theorem append_keeps (w : World) (base : Nat) (t ty e : TypeId) (i : TypeInfo) (z : Value) (size bytes : Nat) (ht : P.underlying t = some (.slice e)) (hi : P.info? e = some i) (hz : i.zero = some z)
  (hsize : i.size = size) (hby : i.bytes = bytes) (hzs : z.cells.size = size) (hsz : 0 < size) (v : Value) (n : Nat) (xs : List Value) (hown : w.ownsRow base e size v n xs)
  (a : Addr) (m c : Nat) (news : List Value) (hl : news.length = m * size) (hm1 : 0 < m) (hnews : ∀ j u,news[j]? = some u->w.cell? (a.add j) = some u) (h1 : ∀ u ∈ news,u.oneCell' = true)
  (h63 : n + m<=100000000000) (hbytes : (n + m) * bytes<=140737488355328) (hbase : base<=w.heap.size) :
  ∃ v' w',(Builtin.append_ #[t,t] ty #[v,.slice (some a) m c]).run P w = .ok v' w'/\w'.ownsRow base e size v' (n + m) (xs ++ news)/\w'.ownsRow base e size v n xs/\w.grownBy w' v.ownBlock/\(v'.ownBlock = v.ownBlock\/∀ k,v'.ownBlock = some k->w.heap.size<=k):=by
 have h63' : n + m<=maxLen:=by unfold maxLen;omega
 obtain ⟨v',w',hr,h2,h3,h4⟩:=run_append_own (P:=P) w base t ty e i z size bytes ht hi hz hsize hby hzs hsz v n xs hown a m c news hl hnews h1 h63' hbytes hbase
 suffices hk : w'.ownsRow base e size v n xs/\(v'.ownBlock = v.ownBlock\/∀ k,v'.ownBlock = some k->w.heap.size<=k) from ⟨v',w',hr,h2,hk.1,h3,hk.2⟩
 rcases hown.2 with ⟨rfl,rfl⟩ | ⟨g,cap,cur,rfl,hbg,hg,hnc,hcm,hcs,htake⟩
 ·subst hsize
  subst hby
  refine ⟨⟨hown.1,.inl ⟨rfl,rfl⟩⟩,.inr fun k hk=>?_⟩
  have hr2:=run_append_nil (P:=P) w t ty e i z ht hi hz a m c news hl hnews hm1 (by omega) (by have hb:=hbytes;simp only [Nat.zero_add] at hb;omega)
  rw [hr] at hr2
  injection hr2 with hv _
  subst hv
  simp [Value.ownBlock] at hk
  omega
 ·refine ⟨⟨hown.1,?_⟩,?_⟩
  rotate_left
  ·subst hsize
   subst hby
   by_cases hroom : n + m<=cap
   ·have hfit : n * i.size + news.length<=cur.size:=by rw [hl,hcs,<- Nat.add_mul];exact Nat.mul_le_mul_right _ hroom
    have hr2:=run_append_room (P:=P) w t ty e i ht hi g n cap cur hg a m c news hl hnews h1 hroom hfit
    rw [hr] at hr2
    injection hr2 with hv _
    subst hv
    exact .inl rfl
   ·refine .inr fun k hk=>?_
    have hr2:=run_append_grow (P:=P) w t ty e i z ht hi hz ⟨g,0,none⟩ n cap xs hown.1 (hown.cells (g:=g) rfl) a m c news hl hnews (by omega) (by omega) (growslice_fits (by omega) hbytes)
    rw [hr] at hr2
    injection hr2 with hv _
    subst hv
    simp [Value.ownBlock] at hk
    omega
  subst hsize
  subst hby
  by_cases hroom : n + m<=cap
  ·have hfit : n * i.size + news.length<=cur.size:=by rw [hl,hcs,<- Nat.add_mul];exact Nat.mul_le_mul_right _ hroom
   have hr2:=run_append_room (P:=P) w t ty e i ht hi g n cap cur hg a m c news hl hnews h1 hroom hfit
   rw [hr] at hr2
   injection hr2 with _ hw
   subst hw
   refine .inr ⟨g,cap,_,rfl,hbg,setRow_heap w g cur _ e _ hg,hnc,hcm,?_,?_⟩
   ·simp only [List.size_toArray,List.length_append,List.length_take,List.length_drop,Array.length_toList]
    omega
   ·rw [htake,List.append_assoc,<- hown.1]
    exact List.take_left
  ·have hr2:=run_append_grow (P:=P) w t ty e i z ht hi hz ⟨g,0,none⟩ n cap xs hown.1 (hown.cells (g:=g) rfl) a m c news hl hnews (by omega) (by omega) (growslice_fits (by omega) hbytes)
   rw [hr] at hr2
   injection hr2 with _ hw
   subst hw
   exact .inr ⟨g,cap,cur,rfl,hbg,(Below.heap_alloc w.drew _ g (Array.getElem?_eq_some_iff.1 hg).1).trans hg,hnc,hcm,hcs,htake⟩
theorem wpList_append_keeps {w : World} {ops : Array Oper} {rest : List Oper} {o : Oper} {a : Act} {Q : Exit->Act->World->Prop} (hgd : o.guard = none) (s x : Operand) (t : TypeId)
  (ho : o.op = .call { callee:=.builtin .append,args:=#[s,x],argTypes:=#[t,t] })
  (base : Nat) (e : TypeId) (i : TypeInfo) (z : Value) (size bytes : Nat) (ht : P.underlying t = some (.slice e)) (hi : P.info? e = some i) (hz : i.zero = some z)
  (hsize : i.size = size) (hby : i.bytes = bytes) (hzs : z.cells.size = size) (hsz : 0 < size)
  (v : Value) (n : Nat) (xs : List Value) (hs : a.eval s = v) (hown : w.ownsRow base e size v n xs)
  (ad : Addr) (m c : Nat) (news : List Value) (hx : a.eval x = .slice (some ad) m c) (hl : news.length = m * size) (hm1 : 0 < m) (hnews : ∀ j u,news[j]? = some u->w.cell? (ad.add j) = some u) (h1 : ∀ u ∈ news,u.oneCell' = true)
  (h63 : n + m<=100000000000) (hbytes : (n + m) * bytes<=140737488355328) (hbase : base<=w.heap.size)
  (h : ∀ v' w',w'.ownsRow base e size v' (n + m) (xs ++ news)->w'.ownsRow base e size v n xs->w.grownBy w' v.ownBlock->(v'.ownBlock = v.ownBlock\/∀ k,v'.ownBlock = some k->w.heap.size<=k)->wpList P ops Q rest (a.put o.dst v') w') : wpList P ops Q (o :: rest) a w:=by
 refine wpList_plain hgd fun K hK=>?_
 obtain ⟨v',w',hr,h2,h3,h4,h5⟩:=append_keeps (P:=P) w base t o.type e i z size bytes ht hi hz hsize hby hzs hsz v n xs hown ad m c news hl hm1 hnews h1 h63 hbytes hbase
 unfold Oper.wp
 simp [execOp,ho,resolve,invoke,builtin,hs,hx,hr,Result.andThen]
 exact hK _ _ (h v' w' h2 h3 h4 h5)
end
end Go.Proofs.YtilkdeghknjjhaaGreatDoor
namespace Go.Proofs.YtilkdeghknjjhaaGreatDoor
open Go.RowKit M
def cmpI (a b : Int) : Int:=if a < b then -1 else if b < a then 1 else 0
def orI (x y : Int) : Int:=if x = 0 then y else x
def cmpD (a b : Int) (c d : Int) : Int:=orI (cmpI a c) (cmpI b d)
theorem isNaN_any (a : Int) (w : World) : Calls Tryz.prog 281 #[.int .i64 a] w fun e w'=>e = .returned (.bool false)/\w' = w:=by
 go_enter Tryz.func281,Tryz.ntmps281
 go_wp2
 go_ret
 exact ⟨rfl,rfl⟩
theorem Compare_any (a b : Int) (w : World) : Calls Tryz.prog 267 #[.int .i64 a,.int .i64 b] w fun e w'=>e = .returned (.int .i64 (cmpI a b))/\w' = w:=by
 by_cases h1 : a < b
 ·have e : cmpI a b = -1:=by simp [cmpI,h1]
  rw [e];clear e
  go_enter Tryz.func267,Tryz.ntmps267
  go_wp2_with fail
  refine (isNaN_any a w).mono ?_
  rintro e w1 ⟨rfl,rfl⟩
  go_wp2_with fail
  refine (isNaN_any b _).mono ?_
  rintro e w1 ⟨rfl,rfl⟩
  go_wp2
  go_ret
  exact ⟨rfl,rfl⟩
 ·by_cases h2 : b < a
  ·have e : cmpI a b = 1:=by simp [cmpI,h1,h2]
   rw [e];clear e
   go_enter Tryz.func267,Tryz.ntmps267
   go_wp2_with fail
   refine (isNaN_any a w).mono ?_
   rintro e w1 ⟨rfl,rfl⟩
   go_wp2_with fail
   refine (isNaN_any b _).mono ?_
   rintro e w1 ⟨rfl,rfl⟩
   go_wp2
   go_ret
   exact ⟨rfl,rfl⟩
  ·have e : cmpI a b = 0:=by simp [cmpI,h1,h2]
   rw [e];clear e
   go_enter Tryz.func267,Tryz.ntmps267
   go_wp2_with fail
   refine (isNaN_any a w).mono ?_
   rintro e w1 ⟨rfl,rfl⟩
   go_wp2_with fail
   refine (isNaN_any b _).mono ?_
   rintro e w1 ⟨rfl,rfl⟩
   go_wp2
   go_ret
   exact ⟨rfl,rfl⟩
theorem Or_any (x y : Int) (b : Nat) (c : Nat) (w : World) (h0 : w.cell? ⟨b,0,none⟩ = some (.int .i64 x)) (h1 : w.cell? ⟨b,1,none⟩ = some (.int .i64 y)) :
  Calls Tryz.prog 266 #[.slice (some ⟨b,0,none⟩) 2 c] w fun e w'=>e = .returned (.int .i64 (orI x y))/\w' = w:=by
 go_enter Tryz.func266,Tryz.ntmps266
 go_wp2
 go_loop [5,8] (fun _ i=>∃ k : Nat,k<=2/\i = .int .i64 k/\Hid ((0 < k->x = 0)/\(1 < k->y = 0))) (fun _ i=>2 - (intOf i).toNat)
 case atStart=>exact ⟨0,by omega,rfl,⟨fun h=>by omega,fun h=>by omega⟩⟩
 case round =>
  obtain ⟨k,hk,rfl,hz⟩:=hrel
  by_cases h20 : k = 0
  ·subst h20
   clear hz hk
   by_cases hx : x = 0
   ·have t : (x != 0) = false:=by simp [hx]
    have HX : Hid (x = 0):=hx
    clear hx
    go_wp2
    go_round
    case rel=>exact ⟨1,by omega,rfl,⟨fun _=>HX.out,fun h=>by omega⟩⟩
    case measure=>simp [intOf]
   ·have t : (x != 0) = true:=by simp [hx]
    have HX : Hid (¬ x = 0):=hx
    clear hx
    go_wp2
    go_ret
    exact ⟨by unfold orI;rw [if_neg HX.out];rfl,rfl⟩
  ·by_cases h21 : k = 1
   ·subst h21
    have hx:=hz.out.1 (by omega)
    have HX : Hid (x = 0):=hx
    clear hz hk hx
    by_cases hy : y = 0
    ·have t : (y != 0) = false:=by simp [hy]
     have HY : Hid (y = 0):=hy
     clear hy
     go_wp2
     go_round
     case rel=>exact ⟨2,by omega,rfl,⟨fun _=>HX.out,fun _=>HY.out⟩⟩
     case measure=>simp [intOf]
    ·have t : (y != 0) = true:=by simp [hy]
     clear hy
     go_wp2
     go_ret
     exact ⟨by unfold orI;rw [if_pos HX.out];rfl,rfl⟩
   ·have h22 : k = 2:=by omega
    subst h22
    have HX : Hid (x = 0):=hz.out.1 (by omega)
    have HY : Hid (y = 0):=hz.out.2 (by omega)
    clear hz
    go_wp2
    go_ret
    exact ⟨by unfold orI;rw [if_pos HX.out,HY.out];rfl,rfl⟩
set_option maxRecDepth 40000 in
theorem compareDots_any (a b : Int) (s : ByteArray) (c d : Int) (t : ByteArray) (w : World) :
  Calls Tryz.prog 233 #[.agg #[.int .i64 a,.int .i64 b,.string s],.agg #[.int .i64 c,.int .i64 d,.string t]] w fun e w'=>e = .returned (.int .i64 (cmpD a b c d))/\Below w.heap.size w w':=by
 go_enter Tryz.func233,Tryz.ntmps233
 go_wp2_with fail
 obtain ⟨W,hW,hb,c0,c1,d0,d1⟩ : ∃ W,((w.alloc (.cells #[.int .i64 a,.int .i64 b,.string s] 122)).alloc (.cells #[.int .i64 c,.int .i64 d,.string t] 122)) = W/\Below w.heap.size w W /\
   W.cell? ⟨w.heap.size,0,none⟩ = some (.int .i64 a)/\W.cell? ⟨w.heap.size,1,none⟩ = some (.int .i64 b)/\W.cell? ⟨w.heap.size + 1,0,none⟩ = some (.int .i64 c)/\W.cell? ⟨w.heap.size + 1,1,none⟩ = some (.int .i64 d) :=
  ⟨_,rfl,((Below.refl _ _).alloc (Nat.le_refl _) _).alloc (by simp) _,by simp [go_sem],by simp [go_sem],by simp [go_sem],by simp [go_sem]⟩
 rw [hW]
 clear hW
 have HB : Hid (Below w.heap.size w W):=hb
 have hsz:=hb.size
 clear hb
 obtain ⟨B,hB⟩ : ∃ B,w.heap.size = B:=⟨_,rfl⟩
 rw [hB] at c0 c1 d0 d1
 rw [hB]
 clear hB hsz
 go_region_held3 (fun w'=>w'.cell? ⟨B,0,none⟩ = some (.int .i64 a)/\w'.cell? ⟨B,1,none⟩ = some (.int .i64 b)/\w'.cell? ⟨B + 1,0,none⟩ = some (.int .i64 c)/\w'.cell? ⟨B + 1,1,none⟩ = some (.int .i64 d)) (go_keep)
  (first
  | (go_at_call_of 267 (Value.int IntKind.i64 a);refine (Compare_any a c _).mono ?_;rintro e w1 ⟨rfl,rfl⟩)
  | (go_at_call_of 267 (Value.int IntKind.i64 b);refine (Compare_any b d _).mono ?_;rintro e w1 ⟨rfl,rfl⟩)
  | (go_at_call 266;refine (Or_any (cmpI a c) (cmpI b d) _ _ _ ?_ ?_).mono ?_;(simp [go_sem]);(simp [go_sem]);rintro e w1 ⟨rfl,rfl⟩))
 all_goals
  go_wp2
  go_ret
  have hb:=HB.out
  exact ⟨rfl,by repeat (first | exact hb | refine below_drewN ?_ _ | refine Below.drew ?_ | refine Below.alloc ?_ (by have:=hb.size;first | omega | (simp;omega)) _)⟩
end Go.Proofs.YtilkdeghknjjhaaGreatDoor
