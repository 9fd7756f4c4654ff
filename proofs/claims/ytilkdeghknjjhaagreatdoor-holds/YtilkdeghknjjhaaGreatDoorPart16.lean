/- A part of the proof. -/
import Derived.Test.YtilkdeghknjjhaaGreatDoorPart13
import Derived.Test.YtilkdeghknjjhaaGreatDoorPart14
set_option maxRecDepth 20000
set_option maxHeartbeats 3200000
set_option linter.unusedVariables false
namespace Go.Proofs.YtilkdeghknjjhaaGreatDoor
open Go.RowKit
variable {a b : ByteArray}
def BoolIs (P : Prop) (w : World) (e : Ending) (w' : World) : Prop:=∃ r,e = .returned (.bool r)/\(r = true ↔ P)/\Below w.heap.size w w'
theorem bytes_eq (h : (a.toList == b.toList) = true) : a = b:=by
 have h2 : a.data.toList = b.data.toList:=by rw [<- Lib.toList_data,<- Lib.toList_data];exact beq_iff_eq.1 h
 obtain ⟨⟨x⟩⟩:=a
 obtain ⟨⟨y⟩⟩:=b
 simp at h2
 rw [h2]
theorem bytes_ne (h : (a.toList == b.toList) = false) : a ≠ b:=fun e=>by subst e;simp at h
def tx (l : List ByteArray) (i : Nat) : ByteArray:=l.getD i ByteArray.empty
theorem tx_get (l : List ByteArray) (i : Nat) (h : i < l.length) : tx l i = l[i]:=by simp [tx,List.getD,List.getElem?_eq_getElem h]
theorem cellsX_at (l : List ByteArray) (j : Nat) (h : j < l.length) : (cellsX l)[j]? = some (.string (tx l j)):=by
 rw [tx_get l j h];simp [cellsX,h]
theorem ext_tx {l m : List ByteArray} (hl : l.length = m.length) (h : ∀ j,j < l.length->tx l j = tx m j) : l = m:=by
 apply List.ext_getElem hl
 intro i h1 h2
 have:=h i h1
 rwa [tx_get l i h1,tx_get m i h2] at this
theorem sameTexts_any (B C : Nat) (v u : Value) (l m : List ByteArray) (w : World) (hv : OwnX w B v l) (hu : OwnX w C u m) (hl : l.length<=1000000000) (hm : m.length<=1000000000) :
  Calls Tryz.prog 106 #[v,u] w fun e w'=>BoolIs (l = m) w e w':=by
 obtain ⟨a,cap,rfl,_,_,hA⟩:=own_cells hv
 obtain ⟨a',cap',rfl,_,_,hA'⟩:=own_cells hu
 have hl1 : (l.length : Int)<=1000000000:=by omega
 have hm1 : (m.length : Int)<=1000000000:=by omega
 by_cases hlen : l.length = m.length
 ·have ht : ((l.length : Int) != (m.length : Int)) = false:=by rw [hlen];simp
  have HL : Hid (l.length = m.length):=hlen
  clear hlen hv hu
  go_enter Tryz.func106,Tryz.ntmps106
  go_wp2
  clear ht
  go_loopw [5] (fun i wr=>∃ k : Nat,k<=l.length/\i = .int .i64 k/\Hid (∀ j,j < k->tx l j = tx m j)/\Below w.heap.size w wr) (fun i _=>l.length - (intOf i).toNat)
  case atStart=>exact ⟨0,Nat.zero_le _,rfl,fun j h=>absurd h (Nat.not_lt_zero j),Below.refl _ _⟩
  case round =>
   obtain ⟨k,hk,rfl,he,hb⟩:=hrel
   by_cases hlt : k < l.length
   ·have hlt' : k < m.length:=by have:=HL.out;omega
    obtain ⟨g,rfl,_,hr⟩:=hA (by omega)
    obtain ⟨g',rfl,_,hr'⟩:=hA' (by omega)
    have c1:=cell_later hb (hr _ _ (cellsX_at l k hlt))
    have c2:=cell_later hb (hr' _ _ (cellsX_at m k hlt'))
    have k0 : (0 : Int)<=(k : Int):=by omega
    have k1 : (k : Int) < (l.length : Int):=by omega
    have k2 : (k : Int) < (m.length : Int):=by omega
    clear hA hA' hr hr'
    obtain ⟨x,hx⟩ : ∃ x,tx l k = x:=⟨_,rfl⟩
    obtain ⟨y,hy⟩ : ∃ y,tx m k = y:=⟨_,rfl⟩
    have HX : Hid (tx l k = x/\tx m k = y):=⟨hx,hy⟩
    rw [hx] at c1
    rw [hy] at c2
    clear hx hy
    by_cases heq : (x.toList == y.toList) = true
    ·have HE : Hid (x = y):=bytes_eq heq
     go_wp2_with fail
     go_quiet (fail)
     go_wp2
     go_roundw
     case rel=>exact ⟨k + 1,by omega,by go_num,fun j h=>by
      by_cases e : j = k
      ·subst e;rw [HX.out.1,HX.out.2];exact HE.out
      ·exact he j (by omega),below_drewN hb nq⟩
     case measure=>simp [intOf];omega
    ·have heq' : (x.toList == y.toList) = false:=by simpa using heq
     have HE : Hid (x ≠ y):=bytes_ne heq'
     clear heq
     go_wp2_with fail
     go_quiet (fail)
     go_wp2
     go_ret
     exact ⟨false,rfl,by simp;intro h;subst h;exact HE.out (HX.out.1.symm.trans HX.out.2),below_drewN hb nq⟩
   ·have HE : Hid (l = m):=ext_tx HL.out (fun j h=>he j (by omega))
    have k1 : ¬ (k : Int) < (l.length : Int):=by omega
    clear hA hA'
    go_wp2
    go_ret
    exact ⟨true,rfl,⟨fun _=>HE.out,fun _=>rfl⟩,hb⟩
 ·have ht : ((l.length : Int) != (m.length : Int)) = true:=by simp;omega
  have HE : Hid (l ≠ m):=fun e=>hlen (by rw [e])
  clear hlen hv hu hA hA'
  go_enter Tryz.func106,Tryz.ntmps106
  go_wp2
  go_ret
  exact ⟨false,rfl,by simp;exact HE.out,Below.refl _ _⟩
def AllX (w : World) (v : Value) (m : ByteArray) : Prop:=∃ a n cap,v = .slice a n cap/\n<=1000000000/\(0 < n->∃ g cs,a = some ⟨g,0,none⟩/\w.heap[g]? = some (.cells cs 9 (0,0))/\∀ j,j < n->cs[j]? = some (.string m))
theorem AllX.below {w w' : World} {v : Value} {m : ByteArray} (h : AllX w v m) (hb : Below w.heap.size w w') : AllX w' v m:=by
 obtain ⟨a,n,cap,hv,hn,hc⟩:=h
 refine ⟨a,n,cap,hv,hn,fun h0=>?_⟩
 obtain ⟨g,cs,ha,hg,hc⟩:=hc h0
 exact ⟨g,cs,ha,heap_later hb hg,hc⟩
theorem marked_any (v : Value) (m : ByteArray) (w : World) (hv : AllX w v m) :
  Calls Tryz.prog 67 #[v,.string m] w fun e w'=>e = .returned (.bool true)/\Below w.heap.size w w':=by
 obtain ⟨a,n,cap,rfl,hn,hA⟩:=hv
 have hn1 : (n : Int)<=1000000000:=by omega
 go_enter Tryz.func67,Tryz.ntmps67
 go_wp2
 go_loopw [5] (fun i wr=>∃ k : Nat,k<=n/\i = .int .i64 k/\Below w.heap.size w wr) (fun i _=>n - (intOf i).toNat)
 case atStart=>exact ⟨0,Nat.zero_le _,rfl,Below.refl _ _⟩
 case round =>
  obtain ⟨k,hk,rfl,hb⟩:=hrel
  by_cases hlt : k < n
  ·obtain ⟨g,cs,rfl,hg,hr⟩:=hA (by omega)
   have c1 : wr.cell? ⟨g,k,none⟩ = some (.string m):=by rw [cell_of_row _ _ _ _ _ _ (heap_later hb hg)];exact hr k hlt
   have k0 : (0 : Int)<=(k : Int):=by omega
   have k1 : (k : Int) < (n : Int):=by omega
   clear hA hr hg
   go_wp2
   go_roundw
   case rel=>exact ⟨k + 1,by omega,by go_num,hb⟩
   case measure=>simp [intOf];omega
  ·have k1 : ¬ (k : Int) < (n : Int):=by omega
   clear hA
   go_wp2
   go_ret
   exact ⟨rfl,hb⟩
def pickF (c n : Int) : Int:=(if c < 0 then -(c + 1) else c) % n
theorem pick_any (c n : Int) (w : World) (h1 : -9223372036854775808<=c) (h2 : c<=9223372036854775807) (h3 : 1<=n) (h4 : n<=9223372036854775807) :
  Calls Tryz.prog 102 #[.int .i64 c,.int .i64 n] w fun e w'=>e = .returned (.int .i64 (pickF c n))/\w' = w:=by
 by_cases hc : c < 0
 ·have HP : Hid (pickF c n = (-(c + 1)) % n):=by show pickF c n = _;unfold pickF;rw [if_pos hc]
  have hq : 0<=-(c + 1):=by omega
  go_enter Tryz.func102,Tryz.ntmps102
  go_wp2
  go_ret
  exact ⟨congrArg (fun q=>Ending.returned (.int .i64 q)) (by rw [HP.out,<- Int.tmod_eq_emod_of_nonneg hq,Int.neg_tmod]),rfl⟩
 ·have HP : Hid (pickF c n = c % n):=by show pickF c n = _;unfold pickF;rw [if_neg hc]
  have hq : 0<=c:=by omega
  go_enter Tryz.func102,Tryz.ntmps102
  go_wp2
  go_ret
  exact ⟨congrArg (fun q=>Ending.returned (.int .i64 q)) (by rw [HP.out]),rfl⟩
end Go.Proofs.YtilkdeghknjjhaaGreatDoor
namespace Go.Proofs.YtilkdeghknjjhaaGreatDoor
open Go.RowKit M
def markG (fuel : Nat) (k : Int) (out : ByteArray) : ByteArray :=
 match fuel with
 | 0=>out
 | f + 1=>if 0 < k then markG f (k / 10) (out ++ strOfNums [97 + k % 10]) else out
theorem markG_more : ∀ (f g : Nat) (k : Int) (out : ByteArray),k<=f->k<=g->markG f k out = markG g k out
 | 0,0,k,out,_,_=>rfl
 | 0,g + 1,k,out,h,_=>by simp only [markG];rw [if_neg (by omega)]
 | f + 1,0,k,out,_,h=>by simp only [markG];rw [if_neg (by omega)]
 | f + 1,g + 1,k,out,h1,h2=>by
  simp only [markG]
  by_cases hk : 0 < k
  ·rw [if_pos hk,if_pos hk]
   exact markG_more f g _ _ (by omega) (by omega)
  ·rw [if_neg hk,if_neg hk]
def markS : ByteArray:=⟨#[109,97,114,107,32]⟩
def markF (k : Int) : ByteArray:=markG k.toNat k markS
theorem mark_any (k : Int) (w : World) (h0 : 0<=k) (h1 : k<=100000000000) :
  Calls Tryz.prog 68 #[.int .i64 k] w fun e w'=>e = .returned (.string (markF k))/\Below w.heap.size w w':=by
 go_enter Tryz.func68,Tryz.ntmps68
 go_wp2
 go_loopw [0,3] (fun d s wr=>∃ (q : Int) (t : ByteArray),d = .int .i64 q/\s = .string t/\0<=q/\q<=100000000000/\Hid ((t.size : Int) + q<=5 + k)/\Hid (markG q.toNat q t = markF k)/\Below w.heap.size w wr)
  (fun d _ _=>(intOf d).toNat)
 case atStart=>exact ⟨k,markS,rfl,rfl,h0,h1,by show (5 : Int) + k<=5 + k;omega,rfl,Below.refl _ _⟩
 case round =>
  obtain ⟨q,t,rfl,rfl,q0,q1,hts,hm,hb⟩:=hrel
  have hsz:=hb.size
  by_cases hlt : 0 < q
  ·have m0 : 0<=q % 10:=by omega
   have m1 : q % 10 < 10:=by omega
   have kc:=fun (wx : World) (hx : Hid (wx.cell? ⟨wr.heap.size,0,none⟩ = some (.int .u8 (97 + q % 10))))=>run_convert_bytes_arg (P:=Tryz.prog) wx 126 5 Tryz.underlying126 Tryz.underlying5 wr.heap.size 0 1 1 [97 + q % 10] rfl (fun i hi=>by
    obtain rfl : i = 0:=by omega
    exact hx.out) 9 Tryz.underlying9
   have kc1:=kc (wr.alloc (.cells #[.int .u8 (97 + q % 10)] 5)) (by show _ = _;simp [go_sem])
   clear kc
   obtain ⟨u,hu⟩ : ∃ u,strOfNums [97 + q % 10] = u:=⟨_,rfl⟩
   have us : u.size<=1:=by rw [<- hu,strOfNums_size];simp
   have ts : t.size<=100000000005:=by have:=hts.out;omega
   have HM : Hid (markG (q / 10).toNat (q / 10) (t ++ u) = markF k):=by
    show _ = _
    rw [<- hm.out]
    obtain ⟨f,hf⟩ : ∃ f,q.toNat = f + 1:=⟨q.toNat - 1,by omega⟩
    rw [hf]
    simp only [markG]
    rw [if_pos hlt,hu]
    exact markG_more _ _ _ _ (by omega) (by omega)
   have HT : Hid (((t ++ u).size : Int) + q / 10<=5 + k):=by
    show (_ : Int)<=_
    rw [ByteArray.size_append]
    have:=hts.out
    omega
   rw [hu] at kc1
   clear hu hm hts
   go_wp2
   go_roundw
   case rel=>exact ⟨q / 10,t ++ u,rfl,rfl,by omega,by omega,HT,HM,hb.alloc hsz _⟩
   case measure=>simp [intOf];omega
  ·have HM : Hid (t = markF k):=by
    show _ = _
    rw [<- hm.out]
    have : q.toNat = 0:=by omega
    rw [this];rfl
   clear hm
   go_wp2
   go_ret
   exact ⟨by rw [<- HM.out];rfl,hb⟩
end Go.Proofs.YtilkdeghknjjhaaGreatDoor
namespace Go.Proofs.YtilkdeghknjjhaaGreatDoor
open Go.RowKit M
variable {sc : List (Int × Int)}
theorem cd_trans {x y z : Sb} (h : cd x y < 0) (k : cd y z < 0) : cd x z < 0:=by
 rw [cd_neg] at *
 omega
theorem cd_irr (x : Sb) : ¬ cd x x < 0:=by
 rw [cd_neg]
 omega
theorem cd_tri {x y : Sb} (h : ¬ cd x y < 0) (hne : ¬ (x.n = y.n/\x.c = y.c)) : cd y x < 0:=by
 rw [cd_neg] at *
 omega
theorem UpS.lt {c : List (Int × Int)} {l : List Sb} (h : UpS c l l.length) (i : Nat) : ∀ d,i + d + 1 < l.length->cd (sb l i) (sb l (i + d + 1)) < 0
 | 0,hd=>by have:=(h (i + 1) hd).2.2.2 (by omega);simpa using this
 | d + 1,hd=>by
  have a:=UpS.lt h i d (by omega)
  have b:=(h (i + (d + 1) + 1) hd).2.2.2 (by omega)
  rw [show i + (d + 1) + 1 - 1 = i + d + 1 by omega] at b
  exact cd_trans a b
theorem UpS.pw {c : List (Int × Int)} {l : List Sb} (h : UpS c l l.length) : l.Pairwise (fun x y=>cd x y < 0):=by
 refine List.pairwise_iff_getElem.2 fun i j hi hj hij=>?_
 obtain ⟨d,rfl⟩ : ∃ d,j = i + d + 1:=⟨j - i - 1,by omega⟩
 have:=h.lt i d hj
 rw [sb_get l i hi,sb_get l _ hj] at this
 exact this
theorem place_fn {U : List Sb} {x : Sb} {p q : Nat} (hs : U.Pairwise (fun x y=>cd x y < 0)) (hp : Place U x p) (hq : Place U x q) : p = q:=by
 have key : ∀ p q,Place U x p->Place U x q->¬ p < q:=by
  intro p q hp hq hlt
  have h1:=hp.2.2 (by have:=hq.1;omega)
  have h2:=hq.2.1 (by omega)
  have hpl : p < U.length:=by have:=hq.1;omega
  have hql : q - 1 < U.length:=by have:=hq.1;omega
  by_cases e : p = q - 1
  ·rw [e] at h1;omega
  ·have h3:=List.pairwise_iff_getElem.1 hs p (q - 1) hpl hql (by omega)
   rw [sb_get U _ hpl] at h1
   rw [sb_get U _ hql] at h2
   have:=cd_trans h3 h2
   omega
 have a:=key p q hp hq
 have b:=key q p hq hp
 omega
theorem un_append (c : List (Int × Int)) (a b : List Sb) : un c (a ++ b) = un c a ++ un c b:=by simp [un]
theorem un_pw {c : List (Int × Int)} {l : List Sb} (h : l.Pairwise (fun x y=>cd x y < 0)) : (un c l).Pairwise (fun x y=>cd x y < 0):=h.filter _
def st (c : List (Int × Int)) (x : Sb) (l : List Sb) : Nat->List Sb × Bool
 | 0=>([],false)
 | i + 1 =>
  (if (sb l i).c<=cS c (sb l i).n then (if (!(st c x l i).2 && decide (cd x (sb l i) < 0)) = true then (st c x l i).1 ++ [x] else (st c x l i).1)
   else (if (!(st c x l i).2 && decide (cd x (sb l i) < 0)) = true then (st c x l i).1 ++ [x] else (st c x l i).1) ++ [sb l i],
   (st c x l i).2 || (!(st c x l i).2 && decide (cd x (sb l i) < 0)))
theorem st_len (c : List (Int × Int)) (x : Sb) (l : List Sb) : ∀ i,(st c x l i).1.length + (if (st c x l i).2 = true then 0 else 1)<=i + 1
 | 0=>by simp [st]
 | i + 1=>by
  have ih:=st_len c x l i
  unfold st
  cases hb : (st c x l i).2
  ·rw [hb] at ih
   simp only [Bool.not_false,Bool.true_and,Bool.false_or]
   by_cases h1 : cd x (sb l i) < 0 <;> by_cases h2 : (sb l i).c<=cS c (sb l i).n <;> simp [h1,h2] at ih ⊢ <;> omega
  ·rw [hb] at ih
   simp only [Bool.not_true,Bool.false_and,Bool.true_or]
   by_cases h2 : (sb l i).c<=cS c (sb l i).n <;> simp [h2] at ih ⊢ <;> omega
theorem take_snocS (l : List Sb) (k : Nat) (h : k < l.length) : l.take (k + 1) = l.take k ++ [sb l k]:=by
 rw [List.take_succ_eq_append_getElem h,sb_get l k h]
theorem st_form (c : List (Int × Int)) (x : Sb) (l : List Sb) : ∀ i,i<=l.length ->
  ((st c x l i).2 = false->(st c x l i).1 = un c (l.take i)/\∀ t,t < i->¬ cd x (sb l t) < 0) /\
  ((st c x l i).2 = true->∃ j,j < i/\(∀ t,t < j->¬ cd x (sb l t) < 0)/\cd x (sb l j) < 0/\(st c x l i).1 = un c (l.take j) ++ x :: un c ((l.take i).drop j))
 | 0,_=>by simp [st,un]
 | i + 1,hi=>by
  have ih:=st_form c x l i (by omega)
  have hs:=un_snoc c l i (by omega)
  have ht:=take_snocS l i (by omega)
  cases hb : (st c x l i).2
  ·obtain ⟨h1,h2⟩:=ih.1 hb
   by_cases h3 : cd x (sb l i) < 0
   ·refine ⟨fun h=>?_,fun _=>⟨i,by omega,h2,h3,?_⟩⟩
    ·simp [st,hb,h3] at h
    ·have hd : (l.take (i + 1)).drop i = [sb l i]:=by
      rw [ht,List.drop_append_of_le_length (by simp;omega),List.drop_eq_nil_of_le (by simp;omega)];rfl
     rw [hd]
     unfold st
     simp only [hb,Bool.not_false,Bool.true_and,h3,decide_true,if_true]
     rw [h1]
     by_cases h4 : (sb l i).c<=cS c (sb l i).n
     ·rw [if_pos h4];simp [un,h4]
     ·rw [if_neg h4];simp [un,h4]
   ·refine ⟨fun _=>⟨?_,fun t ht2=>?_⟩,fun h=>?_⟩
    ·unfold st
     simp only [hb,Bool.not_false,Bool.true_and,h3,decide_false,Bool.false_eq_true,if_false]
     rw [hs,h1]
    ·by_cases e : t = i
     ·rw [e];exact h3
     ·exact h2 t (by omega)
    ·simp [st,hb,h3] at h
  ·obtain ⟨j,hj,h2,h3,h4⟩:=ih.2 hb
   refine ⟨fun h=>?_,fun _=>⟨j,by omega,h2,h3,?_⟩⟩
   ·simp [st,hb] at h
   ·have hd : (l.take (i + 1)).drop j = (l.take i).drop j ++ [sb l i]:=by
     rw [ht,List.drop_append_of_le_length (by simp;omega)]
    rw [hd,un_append]
    unfold st
    simp only [hb,Bool.not_true,Bool.false_and,Bool.false_eq_true,if_false]
    rw [h4]
    by_cases h5 : (sb l i).c<=cS c (sb l i).n
    ·rw [if_pos h5];simp [un,h5]
    ·rw [if_neg h5];simp [un,h5]
def stEnd (c : List (Int × Int)) (x : Sb) (l : List Sb) : List Sb:=if (st c x l l.length).2 = true then (st c x l l.length).1 else (st c x l l.length).1 ++ [x]
theorem mem_sb {l : List Sb} {y : Sb} (h : y ∈ l) : ∃ t,t < l.length/\sb l t = y:=by
 obtain ⟨t,ht,rfl⟩:=List.getElem_of_mem h
 exact ⟨t,ht,sb_get l t ht⟩
theorem stEnd_put {c : List (Int × Int)} {l : List Sb} {x : Sb} (hs : SetOK sc l) (hx : ¬ x.c<=cS sc x.n) : ∃ p,Place (un c l) x p/\stEnd c x l = put (un c l) p x:=by
 have hf:=st_form c x l l.length (Nat.le_refl _)
 have key : ∀ j,j<=l.length->(∀ t,t < j->¬ cd x (sb l t) < 0)->(j < l.length->cd x (sb l j) < 0)->stEnd c x l = un c (l.take j) ++ x :: un c (l.drop j)->∃ p,Place (un c l) x p/\stEnd c x l = put (un c l) p x:=by
  intro j hj h1 h2 h3
  have hU : un c l = un c (l.take j) ++ un c (l.drop j):=by rw [<- un_append,List.take_append_drop]
  have hput : put (un c l) (un c (l.take j)).length x = un c (l.take j) ++ x :: un c (l.drop j):=by
   unfold put
   rw [hU,List.take_left,List.drop_left]
  refine ⟨(un c (l.take j)).length,⟨by rw [hU];simp,fun h0=>?_,fun h0=>?_⟩,by rw [h3,hput]⟩
  ·have hm : sb (un c l) ((un c (l.take j)).length - 1) ∈ un c (l.take j):=by
    rw [sb_get _ _ (by rw [hU];simp;omega)]
    simp only [hU]
    rw [List.getElem_append_left (by omega)]
    exact List.getElem_mem _
   obtain ⟨t,ht,he⟩:=mem_sb (List.mem_filter.1 hm).1
   have htj : t < j:=by rw [List.length_take] at ht;omega
   have he2 : sb (l.take j) t = sb l t:=by simp [sb,List.getD,htj]
   rw [he2] at he
   rw [<- he]
   refine cd_tri (h1 t htj) (fun hh=>?_)
   have:=(hs.2.2 t (by omega)).2.1
   rw [<- hh.1,<- hh.2] at this
   exact hx this
  ·have hm : sb (un c l) (un c (l.take j)).length ∈ un c (l.drop j):=by
    rw [sb_get _ _ h0]
    simp only [hU]
    rw [List.getElem_append_right (Nat.le_refl _)]
    exact List.getElem_mem _
   obtain ⟨t,ht,he⟩:=mem_sb (List.mem_filter.1 hm).1
   rw [List.length_drop] at ht
   have he2 : sb (l.drop j) t = sb l (j + t):=by simp [sb,List.getD]
   rw [he2] at he
   rw [<- he]
   have h4 : cd x (sb l (j + t)) < 0:=by
    by_cases e : t = 0
    ·subst e;exact h2 (by omega)
    ·obtain ⟨d,hd⟩ : ∃ d,j + t = j + d + 1:=⟨t - 1,by omega⟩
     rw [hd]
     exact cd_trans (h2 (by omega)) (UpS.lt hs.2.2 j d (by omega))
   rcases Int.lt_or_le (cd (sb l (j + t)) x) 0 with h5 | h5
   ·exact absurd (cd_trans h4 h5) (cd_irr x)
   ·exact h5
 cases hb : (st c x l l.length).2
 ·obtain ⟨h1,h2⟩:=hf.1 hb
  refine key l.length (Nat.le_refl _) h2 (fun h=>absurd h (Nat.lt_irrefl _)) ?_
  unfold stEnd
  rw [hb,h1]
  simp [un]
 ·obtain ⟨j,hj,h1,h2,h3⟩:=hf.2 hb
  refine key j (by omega) h1 (fun _=>h2) ?_
  unfold stEnd
  rw [hb,if_pos rfl,h3,List.take_length]
theorem stEnd_len {c : List (Int × Int)} {l : List Sb} {x : Sb} (hs : SetOK sc l) (hx : ¬ x.c<=cS sc x.n) : (stEnd c x l).length = (un c l).length + 1:=by
 obtain ⟨p,hp,he⟩:=stEnd_put (c:=c) hs hx
 rw [he,put_len _ _ _ hp.1]
def upF (sc c : List (Int × Int)) (n : Nat) (k : Int) : Nat->Int:=fun m=>if m = n then k else bth (cN c) (cN sc) 16 m
theorem upF_jn {c : List (Int × Int)} {n : Nat} {k : Int} (hs : US sc) (hc : US c) (hd : Dot (n : Int) k) (h1 : ¬ k<=cS sc n) (h2 : ¬ k<=cS c n) : entsTo (upF sc c n k) 16 = jn [sc,c,[((n : Int),k)]]:=by
 have e : ∀ m,m < 16->upF sc c n k m = apAll [sc,c,[((n : Int),k)]] [sc,c,[((n : Int),k)]].length m:=by
  intro m hm
  rw [apAll_eq]
  unfold upF bth cN
  have a1:=cS_nonneg sc m
  have a2:=cS_nonneg c m
  have hk:=hd.2.2.1
  simp only [List.length_cons,List.length_nil,mxS,List.getD_cons_succ,List.getD_cons_zero,cS]
  by_cases hmn : m = n
  ·subst hmn
   simp only [if_true]
   omega
  ·rw [if_neg hmn,if_pos hm,if_neg (by omega)]
   omega
 have key : ∀ (F G : Nat->Int) k,(∀ n,n < k->F n = G n)->entsTo F k = entsTo G k:=by
  intro F G k
  induction k with
  | zero=>intro _;rfl
  | succ k ih =>
   intro h
   unfold entsTo
   rw [ih (fun n hn=>h n (by omega)),h k (by omega)]
 exact key _ _ 16 e
end Go.Proofs.YtilkdeghknjjhaaGreatDoor
