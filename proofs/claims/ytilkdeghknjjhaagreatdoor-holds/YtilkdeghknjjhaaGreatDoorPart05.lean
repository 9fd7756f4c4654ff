/- A part of the proof. -/
import Derived.Test.YtilkdeghknjjhaaGreatDoorPart03
set_option maxRecDepth 20000
set_option maxHeartbeats 3200000
set_option linter.unusedVariables false
namespace Go.Proofs.YtilkdeghknjjhaaGreatDoor
open Go.RowKit M
theorem ent_append_lt {l m : List (Int × Int)} {j : Nat} (h : j < l.length) : ent (l ++ m) j = ent l j:=by
 simp [ent,List.getD,List.getElem?_append_left h]
theorem rdTo_ent (L : List UInt8) : ∀ m j,j < m->ent (rdTo L m) j = rdE L j
 | 0,j,h=>absurd h (Nat.not_lt_zero j)
 | m + 1,j,h=>by
  by_cases e : j = m
  ·subst e
   have : (rdTo L j).length = j:=rdTo_len L j
   simp [rdTo,ent,List.getD,this]
  ·rw [rdTo,ent_append_lt (by rw [rdTo_len];omega)]
   exact rdTo_ent L m j (by omega)
def toB (l : List Int) : List UInt8:=l.map fun n=>UInt8.ofNat n.toNat
theorem toB_append (a b : List Int) : toB (a ++ b) = toB a ++ toB b:=by simp [toB]
theorem ofNat_eq (b : UInt8) (n : Int) (h : n = b.toNat) : UInt8.ofNat n.toNat = b:=by subst h;simp
theorem be8_val (b0 b1 b2 b3 b4 b5 b6 b7 : UInt8) : toB (be8 (val [b0,b1,b2,b3,b4,b5,b6,b7] : Nat)) = [b0,b1,b2,b3,b4,b5,b6,b7]:=by
 have h0:=b0.toNat_lt;have h1:=b1.toNat_lt;have h2:=b2.toNat_lt;have h3:=b3.toNat_lt
 have h4:=b4.toNat_lt;have h5:=b5.toNat_lt;have h6:=b6.toNat_lt;have h7:=b7.toNat_lt
 simp only [be8,bsN,toB,val,List.foldl,List.nil_append,List.cons_append,List.map,byteAt]
 simp only [List.cons.injEq,and_true]
 refine ⟨?_,?_,?_,?_,?_,?_,?_,?_⟩ <;> (apply ofNat_eq;simp only [Nat.reduceMul,Nat.reduceSub,Int.reducePow];omega)
theorem list8 {l : List UInt8} (h : l.length = 8) : ∃ b0 b1 b2 b3 b4 b5 b6 b7,l = [b0,b1,b2,b3,b4,b5,b6,b7]:=by
 match l,h with
 | [a,b,c,d,e,f,g,i],_=>exact ⟨a,b,c,d,e,f,g,i,rfl⟩
theorem be8_back {l : List UInt8} (h : l.length = 8) (hp : 1<=wrap64 (val l)) : toB (be8 (wrap64 (val l))) = l:=by
 obtain ⟨b0,b1,b2,b3,b4,b5,b6,b7,rfl⟩:=list8 h
 have h0:=b0.toNat_lt;have h1:=b1.toNat_lt;have h2:=b2.toNat_lt;have h3:=b3.toNat_lt
 have h4:=b4.toNat_lt;have h5:=b5.toNat_lt;have h6:=b6.toNat_lt;have h7:=b7.toNat_lt
 have e : wrap64 (val [b0,b1,b2,b3,b4,b5,b6,b7] : Nat) = (val [b0,b1,b2,b3,b4,b5,b6,b7] : Nat):=by
  revert hp
  simp only [val,List.foldl]
  unfold wrap64
  omega
 rw [e]
 exact be8_val _ _ _ _ _ _ _ _
theorem enc_take (L : List UInt8) (h : Dec L) : ∀ k,k<=hd L->toB (encTo (rdTo L (hd L)) k) = L.take (1 + 9 * k):=by
 obtain ⟨hne,hlen,hclk⟩:=h
 intro k
 induction k with
 | zero =>
  intro _
  cases L with
  | nil=>exact absurd rfl hne
  | cons b r=>simp [encTo,toB,rdTo_len,hd]
 | succ k ih =>
  intro hk
  have hd1:=hclk.2 k (by rw [rdTo_len];omega)
  rw [rdTo_ent L _ k (by omega)] at hd1
  rw [encTo,toB_append,ih (by omega),rdTo_ent L _ k (by omega)]
  have h8 : ((L.drop (2 + 9 * k)).take 8).length = 8:=by simp;omega
  have hb:=be8_back h8 hd1.1.2.2.1
  have ht : L.take (1 + 9 * (k + 1)) = L.take (1 + 9 * k) ++ (L.drop (1 + 9 * k)).take 9:=by
   rw [show 1 + 9 * (k + 1) = (1 + 9 * k) + 9 by omega];exact List.take_add
  rw [ht]
  congr 1
  have hx : L.drop (1 + 9 * k) = L[1 + 9 * k]'(by omega) :: L.drop (2 + 9 * k):=by
   rw [List.drop_eq_getElem_cons (by omega)]
   congr 2
   omega
  rw [hx,List.take_succ_cons]
  have h9 : toB ((rdE L k).1 :: be8 (rdE L k).2) = UInt8.ofNat ((rdE L k).1).toNat :: toB (be8 (rdE L k).2):=rfl
  rw [h9]
  congr 1
  unfold rdE
  simp [List.getD,List.getElem?_eq_getElem (show 1 + 9 * k < L.length by omega)]
theorem enc_dec (s : ByteArray) (h : Dec s.data.toList) : strOfNums (encL (rdTo s.data.toList (hd s.data.toList))) = s:=by
 apply WideShapes.bytes_inj
 rw [strOfNums_data]
 have:=enc_take _ h (hd s.data.toList) (Nat.le_refl _)
 unfold encL
 rw [rdTo_len]
 rw [List.take_of_length_le (by rw [h.2.1];exact Nat.le_refl _)] at this
 exact this
end Go.Proofs.YtilkdeghknjjhaaGreatDoor
namespace Go.Proofs.YtilkdeghknjjhaaGreatDoor
open Go.RowKit M
variable {X : List (Int × Int)}
theorem toNat_ofNat (n : Int) (h0 : 0<=n) (h1 : n < 256) : ((UInt8.ofNat n.toNat).toNat : Int) = n:=by
 rw [UInt8.toNat_ofNat'];omega
theorem val_bsN (c : Int) (h0 : 0<=c) (h1 : c < 18446744073709551616) : ∀ n,n<=8->((val (toB (bsN c n)) : Nat) : Int) = c / 2 ^ (8 * (8 - n))
 | 0,_=>by
  show (0 : Int) = c / 2 ^ 64
  rw [Int.ediv_eq_zero_of_lt h0 (by simpa using h1)]
 | n + 1,h=>by
  have ih:=val_bsN c h0 h1 n (by omega)
  have hb : 0<=byteAt c (7 - n)/\byteAt c (7 - n) < 256:=by unfold byteAt;omega
  rw [bsN,toB_append]
  show ((val (toB (bsN c n) ++ [UInt8.ofNat (byteAt c (7 - n)).toNat]) : Nat) : Int) = _
  rw [val_snoc]
  have hq : c / 2 ^ (8 * (8 - n)) = (c / 2 ^ (8 * (7 - n))) / 256:=by
   rw [Int.ediv_ediv_of_nonneg (by exact Int.le_of_lt (Int.pow_pos (by decide))),show 8 * (8 - n) = 8 * (7 - n) + 8 by omega,Int.pow_add]
   rfl
  rw [show 8 * (8 - (n + 1)) = 8 * (7 - n) by omega]
  have h2:=toNat_ofNat _ hb.1 hb.2
  have h3 : byteAt c (7 - n) = c / 2 ^ (8 * (7 - n)) % 256:=rfl
  omega
theorem val_be8 (c : Int) (h0 : 0<=c) (h1 : c < 9223372036854775808) : wrap64 ((val (toB (be8 c)) : Nat) : Int) = c:=by
 unfold be8
 rw [val_bsN c h0 (by omega) 8 (by omega)]
 simp only [Nat.sub_self,Nat.mul_zero,Int.pow_zero,Int.ediv_one]
 unfold wrap64;omega
theorem encTo_split (X : List (Int × Int)) (k : Nat) : ∀ n,k < n->∃ r,encTo X n = encTo X k ++ ((ent X k).1 :: be8 (ent X k).2) ++ r
 | 0,h=>absurd h (Nat.not_lt_zero k)
 | n + 1,h=>by
  by_cases e : k = n
  ·subst e;exact ⟨[],by simp [encTo]⟩
  ·obtain ⟨r,hr⟩:=encTo_split X k n (by omega)
   exact ⟨r ++ ((ent X n).1 :: be8 (ent X n).2),by rw [encTo,hr];simp⟩
theorem toB_len (l : List Int) : (toB l).length = l.length:=by simp [toB]
theorem be8_len (c : Int) : (be8 c).length = 8:=bsN_len c 8
theorem rdE_enc (h : Clk X) (k : Nat) (hk : k < X.length) : rdE (toB (encL X)) k = ent X k:=by
 obtain ⟨r,hr⟩:=encTo_split X k X.length hk
 have hd:=(h.2 k hk).1
 have hl : (toB (encTo X k)).length = 1 + 9 * k:=by rw [toB_len,encTo_len]
 have hL : toB (encL X) = toB (encTo X k) ++ (UInt8.ofNat ((ent X k).1).toNat :: (toB (be8 (ent X k).2) ++ toB r)):=by
  unfold encL
  rw [hr,toB_append,toB_append,List.append_assoc];rfl
 unfold rdE
 rw [hL]
 have e1 : (toB (encTo X k) ++ (UInt8.ofNat ((ent X k).1).toNat :: (toB (be8 (ent X k).2) ++ toB r))).getD (1 + 9 * k) 0 = UInt8.ofNat ((ent X k).1).toNat:=by
  rw [List.getD,List.getElem?_append_right (by omega),hl];simp
 have e2 : ((toB (encTo X k) ++ (UInt8.ofNat ((ent X k).1).toNat :: (toB (be8 (ent X k).2) ++ toB r))).drop (2 + 9 * k)).take 8 = toB (be8 (ent X k).2):=by
  rw [List.drop_append,List.drop_eq_nil_of_le (by omega),hl,show 2 + 9 * k - (1 + 9 * k) = 1 by omega]
  simp only [List.nil_append,List.drop_succ_cons,List.drop_zero]
  rw [List.take_append_of_le_length (by rw [toB_len,be8_len];exact Nat.le_refl _),List.take_of_length_le (by rw [toB_len,be8_len];exact Nat.le_refl _)]
 rw [e1,e2,toNat_ofNat _ hd.1 (by have:=hd.2.1;omega),val_be8 _ (by have:=hd.2.2.1;omega) (by have:=hd.2.2.2;omega)]
theorem hd_enc (h : Clk X) : hd (toB (encL X)) = X.length:=by
 have h8:=h.1
 have : ∀ n,∃ r,toB (encTo X n) = UInt8.ofNat X.length :: r:=by
  intro n
  induction n with
  | zero=>exact ⟨[],by simp [encTo,toB]⟩
  | succ n ih=>obtain ⟨r,hr⟩:=ih;exact ⟨r ++ toB ((ent X n).1 :: be8 (ent X n).2),by rw [encTo,toB_append,hr];rfl⟩
 obtain ⟨r,hr⟩:=this X.length
 unfold encL hd
 rw [hr]
 show (UInt8.ofNat X.length).toNat = X.length
 rw [UInt8.toNat_ofNat'];omega
theorem rdTo_enc (h : Clk X) : rdTo (toB (encL X)) (hd (toB (encL X))) = X:=by
 rw [hd_enc h]
 exact ext_ent (rdTo_len _ _) fun j hj=>by
  rw [rdTo_len] at hj
  rw [rdTo_ent _ _ _ hj,rdE_enc h j hj]
theorem dec_enc (h : Clk X) : Dec (toB (encL X)):=by
 have hl : (toB (encL X)).length = 1 + 9 * X.length:=by unfold encL;rw [toB_len,encTo_len]
 refine ⟨fun e=>by rw [e] at hl;simp at hl;omega,by rw [hd_enc h];exact hl,by rw [rdTo_enc h];exact h⟩
theorem str_enc (X : List (Int × Int)) : (strOfNums (encL X)).data.toList = toB (encL X):=strOfNums_data _
theorem str_size (h : Clk X) : (strOfNums (encL X)).size = 1 + 9 * X.length:=by
 rw [strOfNums_size];unfold encL;rw [encTo_len]
end Go.Proofs.YtilkdeghknjjhaaGreatDoor
namespace Go.Proofs.YtilkdeghknjjhaaGreatDoor
open Go.RowKit M
end Go.Proofs.YtilkdeghknjjhaaGreatDoor
namespace Go.Proofs.YtilkdeghknjjhaaGreatDoor
open Go.RowKit M
def loN (c : Int) : Nat->List Int
 | 0=>[]
 | k + 1=>byteAt c k :: loN c k
theorem loN_len (c : Int) : ∀ k,(loN c k).length = k
 | 0=>rfl
 | k + 1=>by simp [loN,loN_len c k]
theorem str_app (a b : List Int) : strOfNums a ++ strOfNums b = strOfNums (a ++ b):=by
 apply WideShapes.bytes_inj
 rw [strOfNums_data]
 have : (strOfNums a ++ strOfNums b).data = (strOfNums a).data ++ (strOfNums b).data:=ByteArray.data_append
 rw [this,Array.toList_append,strOfNums_data,strOfNums_data,List.map_append]
theorem str_cons (x : Int) (b : List Int) : strOfNums [x] ++ strOfNums b = strOfNums (x :: b):=str_app [x] b
theorem refbytes_any (c : Int) (n : Nat) (w : World) (h0 : 0<=c) (h1 : c<=4611686018427387904) (hn : n<=8) :
  Calls Tryz.prog 214 #[.int .i64 c,.int .i64 (n : Int)] w fun e w'=>e = .returned (.string (strOfNums (loN c n)))/\Below w.heap.size w w':=by
 have hn8 : (n : Int)<=8:=by omega
 go_enter Tryz.func214,Tryz.ntmps214
 go_wp2
 go_loopw [0,5,6] (fun d s i wr=>∃ (k : Nat) (q : Int) (t : ByteArray),k<=n/\i = .int .i64 k/\d = .int .i64 q/\s = .string t/\Hid (q = c / 2 ^ (8 * k))/\0<=q/\q<=4611686018427387904/\Hid (t = strOfNums (loN c k))/\Below w.heap.size w wr)
  (fun _ _ i _=>n - (intOf i).toNat)
 case atStart=>exact ⟨0,c,ByteArray.empty,Nat.zero_le _,rfl,rfl,rfl,by show _ = _;simp,h0,h1,rfl,Below.refl _ _⟩
 case round =>
  obtain ⟨k,q,t,hk,rfl,rfl,rfl,hq,q0,q1,ht,hb⟩:=hrel
  have hsz:=hb.size
  by_cases hlt : k < n
  ·have m0 : 0<=q % 256:=by omega
   have m1 : q % 256 < 256:=by omega
   have kc:=fun (wx : World) (hx : Hid (wx.cell? ⟨wr.heap.size,0,none⟩ = some (.int .u8 (q % 256))))=>run_convert_bytes_arg (P:=Tryz.prog) wx 126 5 Tryz.underlying126 Tryz.underlying5 wr.heap.size 0 1 1 [q % 256] rfl (fun i hi=>by
    obtain rfl : i = 0:=by omega
    exact hx.out) 9 Tryz.underlying9
   have kc1:=kc (wr.alloc (.cells #[.int .u8 (q % 256)] 5)) (by show _ = _;simp [go_sem])
   clear kc
   obtain ⟨u,hu⟩ : ∃ u,strOfNums [q % 256] = u:=⟨_,rfl⟩
   have us : u.size<=1:=by rw [<- hu,strOfNums_size];simp
   have ts : t.size<=8:=by rw [ht.out,strOfNums_size,loN_len];omega
   rw [hu] at kc1
   have HU : Hid (strOfNums [q % 256] = u):=hu
   clear hu
   go_wp2
   go_roundw
   case rel =>
    refine ⟨k + 1,q / 256,u ++ t,by omega,by go_num,rfl,rfl,?_,by omega,by omega,?_,hb.alloc hsz _⟩
    ·show _ = _
     rw [hq.out,Int.ediv_ediv_of_nonneg (Int.le_of_lt (Int.pow_pos (by decide))),show 8 * (k + 1) = 8 * k + 8 by omega,Int.pow_add]
     rfl
    ·show _ = _
     rw [<- HU.out,ht.out,str_cons]
     have : q % 256 = byteAt c k:=by rw [hq.out];rfl
     rw [this];rfl
   case measure=>simp [intOf];omega
  ·obtain rfl : k = n:=by omega
   go_wp2
   go_ret
   exact ⟨by rw [ht.out];rfl,hb⟩
end Go.Proofs.YtilkdeghknjjhaaGreatDoor
namespace Go.Proofs.YtilkdeghknjjhaaGreatDoor
open Go.RowKit M
theorem alloc_last (w : World) (o : Obj) : (w.alloc o).heap[w.heap.size]? = some o:=heap_alloc_new w o
theorem refEntries_any (F : Nat->Int) (w : World) :
  Calls Tryz.prog 220 #[.agg (arr F)] w fun e w'=>∃ v,e = .returned v/\w'.ownsRow w.heap.size 183 2 v (entsTo F 16).length (cellsE (entsTo F 16))/\Below w.heap.size w w':=by
 obtain ⟨i0,hi,hz0,hz1,hz2⟩:=info_parts Tryz.info183
 go_enter Tryz.func220,Tryz.ntmps220
 go_wp2_with fail
 have HR : Hid ((w.alloc (.cells (arr F) 241)).heap[w.heap.size]? = some (.cells (arr F) 241 (0,0))):=by show _ = _;exact alloc_last w _
 go_loopw [3,4] (fun v i wr=>∃ k : Nat,k<=16/\i = .int .i64 k/\wr.heap[w.heap.size]? = some (.cells (arr F) 241 (0,0))/\wr.ownsRow (w.heap.size + 1) 183 2 v (entsTo F k).length (cellsE (entsTo F k))/\Below (w.heap.size + 1) (w.alloc (.cells (arr F) 241)) wr)
  (fun _ i _=>16 - (intOf i).toNat)
 case atStart=>exact ⟨0,Nat.zero_le _,rfl,HR.out,World.ownsRow_nil _ _ _ _,Below.refl _ _⟩
 case round =>
  obtain ⟨k,hk,rfl,hw0,ho,hb⟩:=hrel
  have hb2 : Below w.heap.size w wr:=((Below.refl _ _).alloc (Nat.le_refl _) _).trans (hb.mono (by omega))
  have hsz2:=hb.size
  have hsz : w.heap.size + 1<=wr.heap.size:=by simpa using hsz2
  have hel:=entsTo_len F k
  clear HR hsz2
  by_cases hlt : k < 16
  ·have c0 : wr.cell? ⟨w.heap.size,k,none⟩ = some (.int .i64 (F k)):=by rw [cell_of_row _ _ _ _ _ _ hw0];exact arr_at _ _ hlt
   by_cases hF : 0 < F k
   ·have HE : Hid (entsTo F (k + 1) = entsTo F k ++ [((k : Int),F k)]):=by show _ = _;simp [entsTo,hF]
    have HW : Hid (wr.heap[w.heap.size]? = some (.cells (arr F) 241 (0,0))):=hw0
    clear hw0
    go_wp2_with (first
     | (at_builtin;refine wpList_append_own _ rfl _ _ 109 rfl (w.heap.size + 1) 183 i0 (.agg #[.int .i64 0,.int .i64 0]) 2 16 Tryz.underlying109 hi hz0 hz1 hz2 rfl (by decide) _ _ _ rfl (ho.alloc _) ⟨wr.heap.size,0,none⟩ 1 1 [.int .i64 (k : Int),.int .i64 (F k)] rfl rfl ?c1 ?c2 ?c3 ?c4 ?c5 ?_))
    case c1=>exact cell_two_new _ _ _ _
    case c2=>intro u hu;simp at hu;rcases hu with rfl | rfl <;> rfl
    case c3=>unfold maxLen;omega
    case c4=>omega
    case c5=>simp;omega
    ·intro v' w2 hown' hgrow _
     have hb3 : Below (w.heap.size + 1) (w.alloc (.cells (arr F) 241)) w2:=(hb.alloc (by omega) _).grown hgrow (by simp;omega) (fun q hq=>(ho.lt q hq).1)
     have hw2 : w2.heap[w.heap.size]? = some (.cells (arr F) 241 (0,0)):=(hb3.block _ (by omega)).trans (alloc_last w _)
     have HW2 : Hid (w2.heap[w.heap.size]? = some (.cells (arr F) 241 (0,0))):=hw2
     clear hw2
     go_wp2
     go_roundw
     case rel=>exact ⟨k + 1,by omega,by go_num,HW2.out,by rw [HE.out,List.length_append,cellsE_snoc];exact hown',hb3⟩
     case measure=>simp [intOf];omega
   ·have HE : Hid (entsTo F (k + 1) = entsTo F k):=by show _ = _;simp [entsTo,hF]
    go_wp2
    go_roundw
    case rel=>exact ⟨k + 1,by omega,by go_num,hw0,by rw [HE.out];exact ho,hb⟩
    case measure=>simp [intOf];omega
  ·obtain rfl : k = 16:=by omega
   go_wp2
   go_ret
   exact ⟨_,rfl,own_base ho (by omega),hb2⟩
def bth (F G : Nat->Int) (k : Nat) : Nat->Int:=fun n=>if n < k then max (F n) (G n) else F n
theorem bth_at (F G : Nat->Int) (k n : Nat) (h : k<=n) : bth F G k n = F n:=by unfold bth;rw [if_neg (by omega)]
theorem bth_yes (F G : Nat->Int) (k m : Nat) (h : F k < G k) : bth F G (k + 1) m = if m = k then G k else bth F G k m:=by
 unfold bth
 by_cases e : m = k
 ·subst e;rw [if_pos (by omega),if_pos rfl];omega
 ·rw [if_neg e]
  by_cases h2 : m < k
  ·rw [if_pos (by omega),if_pos h2]
  ·rw [if_neg (by omega),if_neg h2]
theorem bth_no (F G : Nat->Int) (k : Nat) (h : ¬ F k < G k) : bth F G (k + 1) = bth F G k:=by
 funext m
 unfold bth
 by_cases e : m = k
 ·subst e;rw [if_pos (by omega),if_neg (by omega)];omega
 ·by_cases h2 : m < k
  ·rw [if_pos (by omega),if_pos h2]
  ·rw [if_neg (by omega),if_neg h2]
theorem one_arr' (F : Nat->Int) : (arr F).all (·.oneCell') = true:=by
 rw [Array.all_eq_true_iff_forall_mem]
 intro x hx
 simp [arr] at hx
 obtain ⟨n,_,rfl⟩:=hx
 rfl
theorem three_new (w : World) (A B C : Array Value) : (((w.alloc (.cells A 241)).alloc (.cells B 241)).alloc (.cells C 241)).heap[w.heap.size]? = some (.cells A 241 (0,0))/\(((w.alloc (.cells A 241)).alloc (.cells B 241)).alloc (.cells C 241)).heap[w.heap.size + 1]? = some (.cells B 241 (0,0)) /\
   (((w.alloc (.cells A 241)).alloc (.cells B 241)).alloc (.cells C 241)).heap[w.heap.size + 1 + 1]? = some (.cells C 241 (0,0))/\Below w.heap.size w (((w.alloc (.cells A 241)).alloc (.cells B 241)).alloc (.cells C 241)):=by
 refine ⟨?_,?_,?_,(((Below.refl _ _).alloc (Nat.le_refl _) _).alloc (by simp) _).alloc (by simp;omega) _⟩
 ·rw [Below.heap_alloc _ _ _ (by simp;omega)];exact heap_alloc2_old w _ _
 ·rw [Below.heap_alloc _ _ _ (by simp)];exact heap_alloc2_new w _ _
 ·have:=heap_alloc_new ((w.alloc (.cells A 241)).alloc (.cells B 241)) (.cells C 241)
  simpa using this
theorem refboth_any (F G : Nat->Int) (w : World) :
  Calls Tryz.prog 219 #[.agg (arr F),.agg (arr G)] w fun e w'=>e = .returned (.agg (arr (bth F G 16)))/\Below w.heap.size w w':=by
 go_enter Tryz.func219,Tryz.ntmps219
 go_wp2_with fail
 have HR : Hid (∀ A B C : Array Value,(((w.alloc (.cells A 241)).alloc (.cells B 241)).alloc (.cells C 241)).heap[w.heap.size]? = some (.cells A 241 (0,0))/\(((w.alloc (.cells A 241)).alloc (.cells B 241)).alloc (.cells C 241)).heap[w.heap.size + 1]? = some (.cells B 241 (0,0)) /\
   (((w.alloc (.cells A 241)).alloc (.cells B 241)).alloc (.cells C 241)).heap[w.heap.size + 1 + 1]? = some (.cells C 241 (0,0))/\Below w.heap.size w (((w.alloc (.cells A 241)).alloc (.cells B 241)).alloc (.cells C 241))):=three_new w
 go_loopw [5] (fun i wr=>∃ k : Nat,k<=16/\i = .int .i64 k/\wr.heap[w.heap.size]? = some (.cells (arr (bth F G k)) 241 (0,0))/\wr.heap[w.heap.size + 1]? = some (.cells (arr G) 241 (0,0)) /\
   wr.heap[w.heap.size + 1 + 1]? = some (.cells (arr (fun _=>0)) 241 (0,0))/\Below w.heap.size w wr)
  (fun i _=>16 - (intOf i).toNat)
 case atStart=>exact ⟨0,Nat.zero_le _,rfl,(HR.out _ _ (arr (fun _=>0))).1,(HR.out _ _ (arr (fun _=>0))).2.1,(HR.out _ _ (arr (fun _=>0))).2.2.1,(HR.out _ _ _).2.2.2⟩
 case round =>
  obtain ⟨k,hk,rfl,h0,h1,h2,hb⟩:=hrel
  clear HR
  have H0 : Hid (wr.heap[w.heap.size]? = some (.cells (arr (bth F G k)) 241 (0,0))):=h0
  have H1 : Hid (wr.heap[w.heap.size + 1]? = some (.cells (arr G) 241 (0,0))):=h1
  have H2 : Hid (wr.heap[w.heap.size + 1 + 1]? = some (.cells (arr (fun _=>0)) 241 (0,0))):=h2
  by_cases hlt : k < 16
  ·have c0 : wr.cell? ⟨w.heap.size,k,none⟩ = some (.int .i64 (F k)):=by rw [cell_of_row _ _ _ _ _ _ h0,arr_at _ _ hlt,bth_at F G k k (by omega)]
   have c1 : wr.cell? ⟨w.heap.size + 1,k,none⟩ = some (.int .i64 (G k)):=by rw [cell_of_row _ _ _ _ _ _ h1];exact arr_at _ _ hlt
   have cf : wr.frozen? ⟨w.heap.size,k,none⟩ = false:=frozen_of_row _ _ _ _ _ h0
   clear h0 h1 h2
   by_cases hgt : F k < G k
   ·go_wp2_with fail
    go_quiet (fail)
    generalize hwq : wr.drewN _ = wq
    have HQ : Hid (∃ n,wq = wr.drewN n):=⟨_,hwq.symm⟩
    have d1 : wq.cell? ⟨w.heap.size + 1,k,none⟩ = some (.int .i64 (G k)):=by rw [<- hwq];exact c1
    have d0 : wq.cell? ⟨w.heap.size,k,none⟩ = some (.int .i64 (F k)):=by rw [<- hwq];exact c0
    have df : wq.frozen? ⟨w.heap.size,k,none⟩ = false:=by rw [<- hwq];exact cf
    clear c0 c1 cf hwq
    go_wp2
    go_roundw
    case rel =>
     obtain ⟨n,rfl⟩:=HQ.out
     refine ⟨k + 1,by omega,by go_num,?_,?_,?_,(below_drewN hb n).setCell (Nat.le_refl _) _⟩
     ·rw [heap_setCell_same (wr.drewN n) _ _ _ _ _ H0.out]
      congr 2
      exact arr_set _ _ _ _ (fun m=>bth_yes F G k m hgt)
     ·rw [heap_setCell_other _ _ _ _ (by simp)];exact H1.out
     ·rw [heap_setCell_other _ _ _ _ (by simp;omega)];exact H2.out
    case measure=>simp [intOf];omega
   ·have HE : Hid (bth F G (k + 1) = bth F G k):=bth_no F G k hgt
    go_wp2_with fail
    go_quiet (fail)
    go_wp2
    go_roundw
    case rel=>exact ⟨k + 1,by omega,by go_num,by rw [HE.out];exact H0.out,H1.out,H2.out,below_drewN hb _⟩
    case measure=>simp [intOf];omega
  ·obtain rfl : k = 16:=by omega
   clear h0 h1 h2
   go_wp2_with (first
    | (refine wpList_load_row rfl 241 _ rfl w.heap.size rfl 241 (arr (bth F G 16)) (0,0) _ H0.out Tryz.underlying241 rfl (by rw [arr_size];exact info61) ?_)
    | (refine wpList_store_row rfl 241 _ _ rfl (w.heap.size + 1 + 1) (arr (bth F G 16)) rfl rfl 241 (arr (fun _=>0)) H2.out (by rw [arr_size];exact info61) (by rw [arr_size,arr_size]) (one_arr' _) ?_))
   exact bodyPost_ret (results_cell_row rfl _ _ (w.heap.size + 1 + 1) 241 (arr (bth F G 16)) (0,0) _ rfl (setRow_heap _ _ _ _ _ _ H2.out) Tryz.underlying241 rfl (by rw [arr_size];exact info61)) rfl ⟨rfl,below_setRow hb (by omega) _⟩
end Go.Proofs.YtilkdeghknjjhaaGreatDoor
