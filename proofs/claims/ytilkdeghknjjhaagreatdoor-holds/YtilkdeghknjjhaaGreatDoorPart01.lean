/- A part of the proof. -/
import Derived.Test.YtilkdeghknjjhaaGreatDoorProg
import Derived.WalkKit
import Derived.WalkSpells
import Derived.WalkLawsBesides
import Derived.Deep.QuietTactic
import Derived.BigQuiet
import Derived.Lib.Strings
set_option maxRecDepth 20000
set_option maxHeartbeats 3200000
set_option linter.unusedVariables false
namespace Go.Proofs.YtilkdeghknjjhaaGreatDoor.M
def Dot (n c : Int) : Prop:=0<=n/\n<=15/\1<=c/\c<=4611686018427387904
def dotB (n c : Int) : Bool:=decide (0<=n) && decide (n<=15) && decide (1<=c) && decide (c<=4611686018427387904)
theorem dotB_iff (n c : Int) : dotB n c = true ↔ Dot n c:=by unfold dotB Dot;simp [and_assoc]
def ent (l : List (Int × Int)) (i : Nat) : Int × Int:=l.getD i (0,0)
def Up (l : List (Int × Int)) (k : Nat) : Prop:=∀ j,j < k->Dot (ent l j).1 (ent l j).2/\(0 < j->(ent l (j - 1)).1 < (ent l j).1)
def Clk (l : List (Int × Int)) : Prop:=l.length<=8/\Up l l.length
theorem Up.zero (l : List (Int × Int)) : Up l 0:=fun j h=>absurd h (Nat.not_lt_zero j)
theorem Up.succ {l : List (Int × Int)} {k : Nat} (h : Up l k) (d : Dot (ent l k).1 (ent l k).2) (u : 0 < k->(ent l (k - 1)).1 < (ent l k).1) : Up l (k + 1):=by
 intro j hj
 by_cases e : j = k
 ·subst e;exact ⟨d,u⟩
 ·exact h j (by omega)
def byteAt (c : Int) (j : Nat) : Int:=c / 2 ^ (8 * j) % 256
def bsN (c : Int) : Nat->List Int
 | 0=>[]
 | n + 1=>bsN c n ++ [byteAt c (7 - n)]
theorem bsN_len (c : Int) : ∀ n,(bsN c n).length = n
 | 0=>rfl
 | n + 1=>by simp [bsN,bsN_len c n]
def be8 (c : Int) : List Int:=bsN c 8
def encTo (l : List (Int × Int)) : Nat->List Int
 | 0=>[(l.length : Int)]
 | k + 1=>encTo l k ++ ((ent l k).1 :: be8 (ent l k).2)
def encL (l : List (Int × Int)) : List Int:=encTo l l.length
theorem encTo_len (l : List (Int × Int)) : ∀ k,(encTo l k).length = 1 + 9 * k
 | 0=>rfl
 | k + 1=>by simp [encTo,encTo_len l k,be8,bsN_len];omega
end Go.Proofs.YtilkdeghknjjhaaGreatDoor.M
namespace Go.Proofs.YtilkdeghknjjhaaGreatDoor
open Go.RowKit M
theorem isDot_any (n c : Int) (w : World) :
  Calls Tryz.prog 151 #[.int .i64 n,.int .i64 c] w fun e w'=>e = .returned (.bool (dotB n c))/\w' = w:=by
 by_cases h1 : 0<=n
 ·by_cases h2 : n<=15
  ·by_cases h3 : 1<=c
   ·by_cases h4 : c<=4611686018427387904
    ·have e : dotB n c = true:=by simp [dotB,h1,h2,h3,h4]
     rw [e];clear e
     go_enter Tryz.func151,Tryz.ntmps151
     go_wp2
     go_ret
     exact ⟨rfl,rfl⟩
    ·have e : dotB n c = false:=by simp [dotB,h4]
     rw [e];clear e
     go_enter Tryz.func151,Tryz.ntmps151
     go_wp2
     go_ret
     exact ⟨rfl,rfl⟩
   ·have e : dotB n c = false:=by simp [dotB,h3]
    rw [e];clear e
    go_enter Tryz.func151,Tryz.ntmps151
    go_wp2
    go_ret
    exact ⟨rfl,rfl⟩
  ·have e : dotB n c = false:=by simp [dotB,h2]
   rw [e];clear e
   go_enter Tryz.func151,Tryz.ntmps151
   go_wp2
   go_ret
   exact ⟨rfl,rfl⟩
 ·have e : dotB n c = false:=by simp [dotB,h1]
  rw [e];clear e
  go_enter Tryz.func151,Tryz.ntmps151
  go_wp2
  go_ret
  exact ⟨rfl,rfl⟩
end Go.Proofs.YtilkdeghknjjhaaGreatDoor
namespace Go.Proofs.YtilkdeghknjjhaaGreatDoor
open Go.RowKit M
variable {w : World} {v : Value} {l : List (Int × Int)}
def Rd (w : World) (v : Value) (l : List (Int × Int)) : Prop :=
 ∃ a cap,v = .slice a l.length cap/\l.length<=cap/\cap<=9223372036854775807 /\
  (0 < l.length->∃ b off,a = some ⟨b,off,none⟩/\∀ j,j < l.length->w.cell? ⟨b,off + j * 2,none⟩ = some (.int .i64 (ent l j).1)/\w.cell? ⟨b,off + j * 2 + 1,none⟩ = some (.int .i64 (ent l j).2))
theorem Rd.nil (w : World) : Rd w (.slice none 0 0) []:=⟨none,0,rfl,Nat.le_refl _,by omega,fun h=>absurd h (by simp)⟩
theorem Rd.below {w' : World} (h : Rd w v l) (hb : Below w.heap.size w w') : Rd w' v l:=by
 obtain ⟨a,cap,hv,h1,h2,h3⟩:=h
 refine ⟨a,cap,hv,h1,h2,fun h0=>?_⟩
 obtain ⟨b,off,ha,hc⟩:=h3 h0
 exact ⟨b,off,ha,fun j hj=>⟨cell_later hb (hc j hj).1,cell_later hb (hc j hj).2⟩⟩
def cellsE : List (Int × Int)->List Value
 | []=>[]
 | e :: r=>.int .i64 e.1 :: .int .i64 e.2 :: cellsE r
theorem cellsE_at : ∀ (l : List (Int × Int)) (j : Nat),j < l.length->(cellsE l)[j * 2]? = some (.int .i64 (ent l j).1)/\(cellsE l)[j * 2 + 1]? = some (.int .i64 (ent l j).2)
 | [],j,h=>absurd h (by simp)
 | e :: r,0,_=>by simp [cellsE,ent]
 | e :: r,j + 1,h=>by
  have:=cellsE_at r j (by simpa using h)
  rw [show (j + 1) * 2 = j * 2 + 1 + 1 by omega]
  simpa [cellsE,ent] using this
theorem cellsE_snoc : ∀ (l : List (Int × Int)) (e : Int × Int),cellsE (l ++ [e]) = cellsE l ++ [.int .i64 e.1,.int .i64 e.2]
 | [],e=>rfl
 | x :: r,e=>by simp [cellsE,cellsE_snoc r e]
theorem Rd.own {B n : Nat} (h : w.ownsRow B 183 2 v n (cellsE l)) (hn : n = l.length) : Rd w v l:=by
 subst hn
 obtain ⟨h1,h2⟩:=h
 rcases h2 with ⟨hv,h0⟩ | ⟨g,cap,cur,hv,hg,hh,hle,hm,hsz,htk⟩
 ·have : l = []:=List.eq_nil_of_length_eq_zero h0
  subst this;subst hv;exact Rd.nil w
 ·refine ⟨_,cap,hv,hle,by simp only [maxLen] at hm;omega,fun h0=>⟨g,0,rfl,fun j hj=>?_⟩⟩
  have hc : ∀ k,k < l.length * 2->w.cell? ⟨g,0 + k,none⟩ = (cellsE l)[k]?:=by
   intro k hk
   rw [cell_of_row w g (0 + k) cur 183 (0,0) hh,<- htk,List.getElem?_take,if_pos hk]
   simp
  have:=cellsE_at l j hj
  exact ⟨(hc _ (by omega)).trans this.1,by rw [Nat.add_assoc];exact (hc _ (by omega)).trans this.2⟩
theorem isClock_any (v : Value) (l : List (Int × Int)) (w : World) (hrd : Rd w v l) :
  Calls Tryz.prog 98 #[v] w fun e w'=>∃ r,e = .returned (.bool r)/\(r = true ↔ Clk l)/\Below w.heap.size w w':=by
 obtain ⟨a,cap,rfl,hlc,hc,hA⟩:=hrd
 by_cases h8 : 8 < l.length
 ·go_enter Tryz.func98,Tryz.ntmps98
  go_wp2
  go_ret
  exact ⟨false,rfl,by simp [Clk];omega,Below.refl _ _⟩
 ·go_enter Tryz.func98,Tryz.ntmps98
  go_wp2
  go_loopw [3,4,10] (fun _ _ i wr=>∃ k : Nat,k<=l.length/\i = .int .i64 k/\Up l k/\Below w.heap.size w wr)
   (fun _ _ i _=>l.length - (intOf i).toNat)
  case atStart=>exact ⟨0,Nat.zero_le _,rfl,Up.zero l,Below.refl _ _⟩
  case round =>
   obtain ⟨k,hk,rfl,hu,hw⟩:=hrel
   have hsz:=hw.size
   by_cases hlt : k < l.length
   ·obtain ⟨b,off,rfl,hr⟩:=hA (by omega)
    have hb : b < w.heap.size:=World.block_lt_of_cell? w ⟨b,off + k * 2,none⟩ (hr k hlt).1
    clear hA
    have c1 : wr.cell? ⟨b,off + k * 2,none⟩ = some (.int .i64 (ent l k).1):=(hw.cell (p:=⟨b,off + k * 2,none⟩) hb).trans (hr k hlt).1
    have c2 : wr.cell? ⟨b,off + k * 2 + 1,none⟩ = some (.int .i64 (ent l k).2):=(hw.cell (p:=⟨b,off + k * 2 + 1,none⟩) hb).trans (hr k hlt).2
    by_cases hd : dotB (ent l k).1 (ent l k).2 = true
    ·have hdd:=(dotB_iff _ _).1 hd
     by_cases h0 : 0 < k
     ·have k1 : (0 : Int) < (k : Int):=by omega
      have k2 : (0 : Int)<=(k : Int) - 1:=by omega
      have k3 : (k : Int) - 1 < (l.length : Int):=by omega
      have e1 : ((k : Int) - 1).toNat = k - 1:=by omega
      have c3 : ∀ o,(wr.alloc o).cell? ⟨b,off + (k - 1) * 2,none⟩ = some (.int .i64 (ent l (k - 1)).1):=fun o=>((hw.alloc hsz o).cell (p:=⟨b,off + (k - 1) * 2,none⟩) hb).trans (hr (k - 1) (by omega)).1
      by_cases hle : (ent l k).1<=(ent l (k - 1)).1
      ·go_wp2_with fail
       go_quiet ((go_at_call 151;exact Calls.quiet_of_same (isDot_any _ _ _)))
       go_wp2
       go_ret
       exact ⟨false,rfl,by simp;intro hc;have:=(hc.2 k (by omega)).2 (by omega);omega,(by repeat (first | exact hw | refine below_drewN ?_ _ | refine Below.drew ?_ | refine Below.setCell ?_ (by first | omega | (simp;omega)) _ | refine Below.alloc ?_ (by first | omega | (simp;omega)) _))⟩
      ·go_wp2_with fail
       go_quiet ((go_at_call 151;exact Calls.quiet_of_same (isDot_any _ _ _)))
       go_wp2
       go_roundw
       case rel=>exact ⟨k + 1,by omega,by go_num,hu.succ hdd (fun h=>by omega),(by repeat (first | exact hw | refine below_drewN ?_ _ | refine Below.drew ?_ | refine Below.setCell ?_ (by first | omega | (simp;omega)) _ | refine Below.alloc ?_ (by first | omega | (simp;omega)) _))⟩
       case measure=>simp [intOf];omega
     ·have g0 : decide ((0 : Int) < (k : Int)) = false:=by simp;omega
      go_wp2_with fail
      go_quiet ((go_at_call 151;exact Calls.quiet_of_same (isDot_any _ _ _)))
      go_wp2
      go_roundw
      case rel=>exact ⟨k + 1,by omega,by go_num,hu.succ hdd (fun h=>absurd h h0),(by repeat (first | exact hw | refine below_drewN ?_ _ | refine Below.drew ?_ | refine Below.setCell ?_ (by first | omega | (simp;omega)) _ | refine Below.alloc ?_ (by first | omega | (simp;omega)) _))⟩
      case measure=>simp [intOf];omega
    ·have hd' : dotB (ent l k).1 (ent l k).2 = false:=by simpa using hd
     have hnd : ¬ Dot (ent l k).1 (ent l k).2:=fun h=>hd ((dotB_iff _ _).2 h)
     go_wp2_with fail
     go_quiet ((go_at_call 151;exact Calls.quiet_of_same (isDot_any _ _ _)))
     go_wp2
     go_ret
     exact ⟨false,rfl,by simp;intro hc;exact hnd (hc.2 k (by omega)).1,(by repeat (first | exact hw | refine below_drewN ?_ _ | refine Below.drew ?_ | refine Below.setCell ?_ (by first | omega | (simp;omega)) _ | refine Below.alloc ?_ (by first | omega | (simp;omega)) _))⟩
   ·go_wp2
    go_ret
    exact ⟨true,rfl,by simp;exact ⟨by omega,(show k = l.length by omega) ▸ hu⟩,hw⟩
end Go.Proofs.YtilkdeghknjjhaaGreatDoor
namespace Go.Proofs.YtilkdeghknjjhaaGreatDoor
open Go.RowKit M
theorem Tryz.info5 : (Tryz.prog.info? 5).map (fun i=>(i.zero,i.size,i.bytes)) = some (some (.int .u8 0),1,1):=by kernel_rfl
theorem Tryz.info183 : (Tryz.prog.info? 183).map (fun i=>(i.zero,i.size,i.bytes)) = some (some (.agg #[.int .i64 0,.int .i64 0]),2,16):=by kernel_rfl
theorem Tryz.info122 : (Tryz.prog.info? 122).map (fun i=>(i.zero,i.size,i.bytes)) = some (some (.agg #[.int .i64 0,.int .i64 0,.string ByteArray.empty]),3,32):=by kernel_rfl
def u8s (l : List Int) : List Value:=l.map (Value.int .u8)
theorem u8s_snoc (l : List Int) (x : Int) : u8s (l ++ [x]) = u8s l ++ [.int .u8 x]:=by simp [u8s]
theorem appendCount_any (B : Nat) (v : Value) (n : Nat) (xs : List Value) (c : Int) (w : World) (hB : B<=w.heap.size) (hown : w.ownsRow B 5 1 v n xs) (hn : n<=1000) (h0 : 0<=c) (h1 : c<=4611686018427387904) :
  Calls Tryz.prog 99 #[v,.int .i64 c] w fun e w'=>∃ v',e = .returned v'/\w'.ownsRow B 5 1 v' (n + 8) (xs ++ u8s (be8 c))/\Below B w w':=by
 obtain ⟨i0,hi,hz0,hz1,hz2⟩:=info_parts Tryz.info5
 go_enter Tryz.func99,Tryz.ntmps99
 go_wp2
 go_loopw [0,5] (fun v i wr=>∃ k : Nat,k<=8/\i = .int .i64 (7 - (k : Int))/\wr.ownsRow B 5 1 v (n + k) (xs ++ u8s (bsN c k))/\Below B w wr)
  (fun _ i _=>(intOf i + 1).toNat)
 case atStart=>exact ⟨0,by omega,by go_num,by simpa [bsN,u8s] using hown,Below.refl _ _⟩
 case round =>
  obtain ⟨k,hk,rfl,ho,hb⟩:=hrel
  have hsz:=hb.size
  by_cases hlt : k < 8
  ·obtain ⟨j,hj⟩ : ∃ j,k + j = 7:=⟨7 - k,by omega⟩
   have hj8 : j<=7:=by omega
   rw [show (7 : Int) - (k : Int) = (j : Int) from by omega]
   have HJ : Hid (k + j = 7):=hj
   clear hj
   have hbsN : bsN c (k + 1) = bsN c k ++ [c / 2 ^ (8 * j) % 256]:=by
    have e : 7 - k = j:=by have:=HJ.out;omega
    simp [bsN,byteAt,e]
   have HS : Hid (bsN c (k + 1) = bsN c k ++ [c / 2 ^ (8 * j) % 256]):=hbsN
   clear hbsN
   go_wp2_with (first
    | (at_builtin;refine wpList_append_own _ rfl _ _ 126 rfl B 5 i0 (.int .u8 0) 1 1 Tryz.underlying126 hi hz0 hz1 hz2 rfl (by decide) _ _ _ rfl (ho.alloc _) ⟨wr.heap.size,0,none⟩ 1 1 [.int .u8 (c / 2 ^ (8 * j) % 256)] rfl rfl ?c1 ?c2 ?c3 ?c4 ?c5 ?_))
   case c1=>exact cell_one_new _ _ _
   case c2=>intro u hu;simp at hu;subst hu;rfl
   case c3=>unfold maxLen;omega
   case c4=>omega
   case c5=>simp;omega
   ·intro v' w1 hown' hgrow _
    have hb1 : Below B w w1:=(hb.alloc (by omega) _).grown hgrow (by simp;omega) (fun q hq=>(ho.lt q hq).1)
    have hs1:=hb1.size
    go_wp2
    go_roundw
    case rel=>exact ⟨k + 1,by omega,by have:=HJ.out;go_num,by rw [HS.out,u8s_snoc];exact hown',hb1⟩
    case measure=>have:=HJ.out;simp [intOf] <;> omega
  ·obtain rfl : k = 8:=by omega
   go_wp2
   go_ret
   exact ⟨_,rfl,ho,hb⟩
end Go.Proofs.YtilkdeghknjjhaaGreatDoor
namespace Go.Proofs.YtilkdeghknjjhaaGreatDoor
open Go.RowKit M
theorem conv_own {w : World} {B n : Nat} {v : Value} {l : List Int} (h : w.ownsRow B 5 1 v n (u8s l)) :
  (convert 126 9 v).run Tryz.prog w = .ok (.string (strOfNums l)) w:=by
 have hn : l.length = n:=by have:=h.1;simpa [u8s] using this
 rcases h.2 with ⟨rfl,rfl⟩ | ⟨g,cap,cur,rfl,_,hh,hle,hm,hsz,htk⟩
 ·have : l = []:=List.eq_nil_of_length_eq_zero hn
  subst this
  exact run_convert_bytes_nil w 126 5 Tryz.underlying126 Tryz.underlying5 0 0 9 Tryz.underlying9
 ·refine run_convert_bytes_arg w 126 5 Tryz.underlying126 Tryz.underlying5 g 0 n cap l hn (fun i hi=>?_) 9 Tryz.underlying9
  rw [cell_of_row w g (0 + i) cur 5 (0,0) hh]
  have : (u8s l)[i]? = some (.int .u8 (l.getD i 0)):=by
   simp [u8s,List.getD,List.getElem?_eq_getElem (show i < l.length by omega)]
  rw [<- htk,List.getElem?_take,if_pos (by omega)] at this
  simpa using this
theorem Encode_no (v : Value) (l : List (Int × Int)) (w : World) (hrd : Rd w v l) (hk : ¬ Clk l) :
  Calls Tryz.prog 56 #[v] w fun e w'=>e = .returned (.tuple #[.string ByteArray.empty,.int .i64 1])/\Below w.heap.size w w':=by
 go_enter Tryz.func56,Tryz.ntmps56
 go_wp2_with fail
 refine (isClock_any v l _ hrd).mono ?_
 rintro e w1 ⟨r,rfl,hr,hb⟩
 obtain rfl : r = false:=by cases r;rfl;exact absurd (hr.1 rfl) hk
 clear hr
 go_wp2
 go_ret2
 exact ⟨rfl,hb⟩
theorem Encode_yes (v : Value) (l : List (Int × Int)) (w : World) (hrd : Rd w v l) (hk : Clk l) :
  Calls Tryz.prog 56 #[v] w fun e w'=>e = .returned (.tuple #[.string (strOfNums (encL l)),.int .i64 0])/\Below w.heap.size w w':=by
 obtain ⟨i0,hi,hz0,hz1,hz2⟩:=info_parts Tryz.info5
 go_enter Tryz.func56,Tryz.ntmps56
 go_wp2_with fail
 refine (isClock_any v l _ hrd).mono ?_
 rintro e w1 ⟨r,rfl,hr,hb⟩
 obtain rfl : r = true:=hr.2 hk
 clear hr
 have hrd1:=hrd.below hb
 clear hrd
 obtain ⟨a,cap,rfl,hlc,hc,hA⟩:=hrd1
 have hl8 : l.length<=8:=hk.1
 have hsz:=hb.size
 go_wp2_with fail
 go_loopw [4,6,16] (fun v _ i wr=>∃ k : Nat,k<=l.length/\i = .int .i64 k/\wr.ownsRow w1.heap.size 5 1 v (1 + 9 * k) (u8s (encTo l k))/\Below w1.heap.size w1 wr)
  (fun _ _ i _=>l.length - (intOf i).toNat)
 case atStart =>
  refine ⟨0,Nat.zero_le _,rfl,?_,?_⟩
  ·exact World.ownsRow_lit w1 #[.int .u8 (l.length : Int)] 1 (Nat.le_refl _) (by decide) rfl
  ·exact (Below.refl _ _).alloc (Nat.le_refl _) _
 case round =>
  obtain ⟨k,hkl,rfl,ho,hb2⟩:=hrel
  have hsz2:=hb2.size
  by_cases hlt : k < l.length
  ·obtain ⟨b,off,rfl,hr⟩:=hA (by omega)
   have hbb : b < w1.heap.size:=World.block_lt_of_cell? w1 ⟨b,off + k * 2,none⟩ (hr k hlt).1
   clear hA
   have c1 : wr.cell? ⟨b,off + k * 2,none⟩ = some (.int .i64 (ent l k).1):=(hb2.cell (p:=⟨b,off + k * 2,none⟩) hbb).trans (hr k hlt).1
   have c2 : wr.cell? ⟨b,off + k * 2 + 1,none⟩ = some (.int .i64 (ent l k).2):=(hb2.cell (p:=⟨b,off + k * 2 + 1,none⟩) hbb).trans (hr k hlt).2
   have hd:=(hk.2 k hlt).1
   have d1 : 0<=(ent l k).1:=hd.1
   have d2 : (ent l k).1<=15:=hd.2.1
   have d3 : 1<=(ent l k).2:=hd.2.2.1
   have d4 : (ent l k).2<=4611686018427387904:=hd.2.2.2
   have HS : Hid (encTo l (k + 1) = encTo l k ++ ((ent l k).1 :: be8 (ent l k).2)):=rfl
   clear hr hk
   go_wp2_with (first
    | (at_builtin;refine wpList_append_own _ rfl _ _ 126 rfl w1.heap.size 5 i0 (.int .u8 0) 1 1 Tryz.underlying126 hi hz0 hz1 hz2 rfl (by decide) _ _ _ rfl ((ho.alloc _).alloc _) ⟨wr.heap.size + 1,0,none⟩ 1 1 [.int .u8 (ent l k).1] rfl rfl ?c1 ?c2 ?c3 ?c4 ?c5 ?_))
   case c1=>intro j u hj;match j,hj with
    | 0,hj=>simp at hj;subst hj;simp [go_sem,Addr.add]
    | j + 1,hj=>simp at hj
   case c2=>intro u hu;simp at hu;subst hu;rfl
   case c3=>unfold maxLen;omega
   case c4=>omega
   case c5=>simp;omega
   ·intro v' w2 hown' hgrow _
    have hb3 : Below w1.heap.size w1 w2:=((hb2.alloc (by omega) _).alloc (by simp;omega) _).grown hgrow (by simp;omega) (fun q hq=>(ho.lt q hq).1)
    have hs3:=hb3.size
    have e1 : w2.cell? ⟨wr.heap.size,1,none⟩ = some (.int .i64 (ent l k).2):=hgrow.cell (by simp [go_sem]) (fun h=>by have:=(ho.lt _ h.symm).2;simp at this)
    go_wp2_with fail
    refine (appendCount_any w1.heap.size v' _ _ (ent l k).2 w2 (by omega) hown' (by omega) (by omega) d4).mono ?_
    rintro e w3 ⟨v3,rfl,hown3,hb4⟩
    have hb5:=hb3.trans hb4
    have hs5:=hb5.size
    go_wp2
    go_roundw
    case rel=>exact ⟨k + 1,by omega,by go_num,by rw [HS.out];simpa [u8s,Nat.mul_add,Nat.add_assoc] using hown3,hb5⟩
    case measure=>simp [intOf];omega
  ·have hkk : k = l.length:=by omega
   subst hkk
   have hconv:=conv_own ho
   go_wp2
   go_ret2
   exact ⟨rfl,hb.trans (hb2.mono hsz)⟩
end Go.Proofs.YtilkdeghknjjhaaGreatDoor
namespace Go.Proofs.YtilkdeghknjjhaaGreatDoor
open Go.RowKit M
def val (l : List UInt8) : Nat:=l.foldl (fun n b=>n * 256 + b.toNat) 0
theorem val_snoc (l : List UInt8) (b : UInt8) : val (l ++ [b]) = val l * 256 + b.toNat:=by simp [val,List.foldl_append]
theorem or_step (V b : Nat) (hb : b < 256) : bits .or .i64 (wrap64 (wrap64 (V : Int) * 256)) (b : Int) = wrap64 ((V * 256 + b : Nat) : Int):=by
 have h2 : (BitVec.ofInt 64 (b : Int)).toNat = b:=by
  rw [BitVec.ofInt_natCast,BitVec.toNat_ofNat];exact Nat.mod_eq_of_lt (by omega)
 have h1 : (BitVec.ofInt 64 (wrap64 (wrap64 (V : Int) * 256))).toNat = 2 ^ 8 * (V % 72057594037927936):=by
  rw [BitVec.toNat_ofInt]
  unfold wrap64
  simp only [Nat.reducePow]
  omega
 show IntKind.i64.wrap ((BitVec.ofInt 64 (wrap64 (wrap64 (V : Int) * 256)) ||| BitVec.ofInt 64 (b : Int)).toNat : Int) = _
 rw [BitVec.toNat_or,h1,h2,<- Nat.two_pow_add_eq_or_of_lt (by omega),IntKind.wrap_i64]
 unfold wrap64
 omega
theorem take_snoc (s : ByteArray) (k : Nat) (h : k < s.size) : s.data.toList.take (k + 1) = s.data.toList.take k ++ [s[k]]:=by
 rw [List.take_succ_eq_append_getElem (by simpa using h)];rfl
theorem ret_int {k : IntKind} {a b : Int} (h : a = b) : Ending.returned (.int k a) = .returned (.int k b):=by rw [h]
theorem readCount_any (s : ByteArray) (w : World) (hs : s.size<=maxLen) :
  Calls Tryz.prog 150 #[.string s] w fun e w'=>e = .returned (.int .i64 (wrap64 (val s.data.toList)))/\w' = w:=by
 unfold maxLen at hs
 go_enter Tryz.func150,Tryz.ntmps150
 go_wp2
 go_loop [3,4] (fun n i=>∃ (k : Nat) (q : Int),k<=s.size/\i = .int .i64 k/\n = .int .i64 q/\Hid (q = wrap64 (val (s.data.toList.take k)))) (fun _ i=>s.size - (intOf i).toNat)
 case atStart=>exact ⟨0,0,Nat.zero_le _,rfl,rfl,by show _ = _;simp [val,wrap64]⟩
 case round =>
  obtain ⟨k,q,hk,rfl,rfl,hq⟩:=hrel
  by_cases hlt : k < s.size
  ·have hb : (s[k].toNat : Int) < 256:=by have:=s[k].toNat_lt;omega
   go_wp2
   go_round
   case rel =>
    refine ⟨k + 1,_,by omega,by go_num,rfl,?_⟩
    show _ = _
    rw [take_snoc s k hlt,val_snoc,hq.out]
    exact or_step _ _ (by omega)
   case measure=>simp [intOf];omega
  ·go_wp2
   go_ret
   exact ⟨ret_int (by rw [hq.out,List.take_of_length_le (by simp;omega)]),rfl⟩
end Go.Proofs.YtilkdeghknjjhaaGreatDoor
namespace Go.Proofs.YtilkdeghknjjhaaGreatDoor
open Go.RowKit M
def rdE (l : List UInt8) (i : Nat) : Int × Int:=(((l.getD (1 + 9 * i) 0).toNat : Int),wrap64 (val ((l.drop (2 + 9 * i)).take 8)))
def rdTo (l : List UInt8) : Nat->List (Int × Int)
 | 0=>[]
 | k + 1=>rdTo l k ++ [rdE l k]
theorem rdTo_len (l : List UInt8) : ∀ k,(rdTo l k).length = k
 | 0=>rfl
 | k + 1=>by simp [rdTo,rdTo_len l k]
def hd (l : List UInt8) : Nat:=(l.getD 0 0).toNat
def Dec (l : List UInt8) : Prop:=l ≠ []/\l.length = 1 + 9 * hd l/\Clk (rdTo l (hd l))
theorem own_below {w w' : World} {B e size n : Nat} {v : Value} {xs : List Value} (h : w.ownsRow B e size v n xs) (hb : Below w.heap.size w w') : w'.ownsRow B e size v n xs:=by
 refine ⟨h.1,?_⟩
 rcases h.2 with h2 | ⟨g,cap,cur,hv,hg,hh,r⟩
 ·exact .inl h2
 ·exact .inr ⟨g,cap,cur,hv,hg,by rw [hb.block g (Array.getElem?_eq_some_iff.1 hh).1];exact hh,r⟩
theorem toList_size (s : ByteArray) : s.data.toList.length = s.size:=by rw [Array.length_toList];rfl
theorem getD_byte (s : ByteArray) (i : Nat) (h : i < s.size) : s.data.toList.getD i 0 = s[i]:=by
 rw [List.getD,List.getElem?_eq_getElem (by rw [toList_size];exact h)];rfl
theorem val_extract (s : ByteArray) (p : Nat) : val (s.extract (p + 1) (p + 9)).data.toList = val ((s.data.toList.drop (p + 1)).take 8):=by
 have : (s.extract (p + 1) (p + 9)).data.toList = (s.data.toList.drop (p + 1)).take 8:=by
  simp [ByteArray.data_extract,List.extract_eq_take_drop]
 rw [this]
theorem not_dec_empty {l : List UInt8} (h : l.length = 0) : ¬ Dec l:=fun d=>d.1 (List.eq_nil_of_length_eq_zero h)
theorem Decode_any (s : ByteArray) (w : World) (hs : s.size<=maxLen) :
  Calls Tryz.prog 88 #[.string s] w fun e w'=>Below w.heap.size w w'/\((¬ Dec s.data.toList/\e = .returned (.tuple #[.slice none 0 0,.int .i64 2])) \/
   (Dec s.data.toList/\∃ v,e = .returned (.tuple #[v,.int .i64 0])/\w'.ownsRow w.heap.size 183 2 v (hd s.data.toList) (cellsE (rdTo s.data.toList (hd s.data.toList))))):=by
 obtain ⟨i0,hi,hz0,hz1,hz2⟩:=info_parts Tryz.info183
 unfold maxLen at hs
 by_cases h0 : s.size = 0
 ·have he : s.toList.isEmpty = true:=by
   rw [Lib.toList_data,List.eq_nil_of_length_eq_zero (l:=s.data.toList) (by rw [toList_size];exact h0)];rfl
  go_enter Tryz.func88,Tryz.ntmps88
  go_wp2
  go_ret2
  exact ⟨Below.refl _ _,.inl ⟨not_dec_empty (by rw [toList_size];exact h0),rfl⟩⟩
 ·have hp : 0 < s.size:=by omega
  have he : s.toList.isEmpty = false:=by
   rw [Lib.toList_data]
   cases hl : s.data.toList with
   | nil=>have:=toList_size s;rw [hl] at this;simp at this;omega
   | cons a r=>rfl
  have hh : s.data.toList.getD 0 0 = s[0]:=getD_byte s 0 hp
  obtain ⟨b0,hb0⟩ : ∃ b,s[0] = b:=⟨_,rfl⟩
  have hm : hd s.data.toList = b0.toNat:=by unfold hd;rw [hh,hb0]
  have HM : Hid (hd s.data.toList = b0.toNat):=hm
  clear hh hm
  have hb1 : (b0.toNat : Int) < 256:=by have:=b0.toNat_lt;omega
  by_cases h1 : s.size = 1 + 9 * b0.toNat
  ·have ht : ((s.size : Int) != 1 + (b0.toNat : Int) * 9) = false:=by simp;omega
   have H1 : Hid (s.size = 1 + 9 * b0.toNat):=h1
   clear h1
   have q3 : s.size<=3000:=by have:=H1.out;omega
   clear hs
   go_enter Tryz.func88,Tryz.ntmps88
   go_wp2
   clear he ht
   go_loopw [4,5,6] (fun c a _ wr=>∃ k p : Nat,k<=b0.toNat/\Hid (p = 1 + 9 * k)/\a = .int .i64 p/\wr.ownsRow w.heap.size 183 2 c k (cellsE (rdTo s.data.toList k))/\Below w.heap.size w wr)
    (fun _ a _ _=>s.size + 9 - (intOf a).toNat)
   case atStart=>exact ⟨0,1,Nat.zero_le _,rfl,rfl,World.ownsRow_nil _ _ _ _,Below.refl _ _⟩
   case round =>
    obtain ⟨k,p,hk,hpk,rfl,ho,hb⟩:=hrel
    have hsz:=hb.size
    have q1 : p<=s.size:=by have:=hpk.out;have:=H1.out;omega
    by_cases hlt : k < b0.toNat
    ·have q2 : p + 9<=s.size:=by have:=hpk.out;have:=H1.out;omega
     have hbp : (s[p].toNat : Int) < 256:=by have:=s[p].toNat_lt;omega
     go_wp2_with fail
     refine (readCount_any _ _ (by unfold maxLen;simp;omega)).mono ?_
     rintro e w1 ⟨rfl,rfl⟩
     rw [val_extract]
     have hE : rdE s.data.toList k = ((s[p].toNat : Int),wrap64 (val ((s.data.toList.drop (p + 1)).take 8))):=by
      have e1 : 1 + 9 * k = p:=hpk.out.symm
      have e2 : 2 + 9 * k = p + 1:=by omega
      unfold rdE
      rw [e1,e2,getD_byte s p (by omega)]
     have HE : Hid (rdE s.data.toList k = ((s[p].toNat : Int),wrap64 (val ((s.data.toList.drop (p + 1)).take 8)))):=hE
     clear hE
     obtain ⟨q,hq⟩ : ∃ q,wrap64 (val ((s.data.toList.drop (p + 1)).take 8)) = q:=⟨_,rfl⟩
     rw [hq]
     have HQ : Hid (wrap64 (val ((s.data.toList.drop (p + 1)).take 8)) = q):=hq
     clear hq
     go_wp2_with (first
      | (at_builtin;refine wpList_append_own _ rfl _ _ 109 rfl w.heap.size 183 i0 (.agg #[.int .i64 0,.int .i64 0]) 2 16 Tryz.underlying109 hi hz0 hz1 hz2 rfl (by decide) _ _ _ rfl (ho.alloc _) ⟨w1.heap.size,0,none⟩ 1 1 [.int .i64 s[p].toNat,.int .i64 q] rfl rfl ?c1 ?c2 ?c3 ?c4 ?c5 ?_))
     case c1=>exact cell_two_new _ _ _ _
     case c2=>intro u hu;simp at hu;rcases hu with rfl | rfl <;> rfl
     case c3=>unfold maxLen;omega
     case c4=>omega
     case c5=>simp;omega
     ·intro v' w2 hown' hgrow _
      have hb3 : Below w.heap.size w w2:=(hb.alloc (by omega) _).grown hgrow (by simp;omega) (fun q hq=>(ho.lt q hq).1)
      have hs3:=hb3.size
      go_wp2
      go_roundw
      case rel=>exact ⟨k + 1,p + 9,by omega,by show _ = _;have:=hpk.out;omega,by go_num,by rw [rdTo,cellsE_snoc,HE.out,HQ.out];exact hown',hb3⟩
      case measure=>simp [intOf];omega
    ·have hkm : k = b0.toNat:=by omega
     have hps : ¬ p < s.size:=by have:=hpk.out;have:=H1.out;omega
     have hrd : Rd wr u4 (rdTo s.data.toList k):=Rd.own ho (by rw [rdTo_len])
     go_wp2_with fail
     refine (isClock_any _ _ _ hrd).mono ?_
     rintro e w1 ⟨r,rfl,hr,hb2⟩
     have ho1:=own_below ho hb2
     have hb3:=hb.trans (hb2.mono hsz)
     have hs1 : s.data.toList.length = 1 + 9 * hd s.data.toList:=by rw [toList_size,HM.out];exact H1.out
     have hne : s.data.toList ≠ []:=fun e=>by rw [e] at hs1;simp at hs1;omega
     have HK : Hid (k = hd s.data.toList):=hkm.trans HM.out.symm
     have HN : Hid (s.data.toList ≠ []/\s.data.toList.length = 1 + 9 * hd s.data.toList):=⟨hne,hs1⟩
     clear hne hs1 hkm
     cases r
     ·have hnk : ¬ Clk (rdTo s.data.toList k):=fun h=>Bool.noConfusion (hr.2 h)
      clear hr
      go_wp2
      go_ret2
      exact ⟨hb3,.inl ⟨fun d=>hnk (by rw [HK.out];exact d.2.2),rfl⟩⟩
     ·have hkc : Clk (rdTo s.data.toList k):=hr.1 rfl
      clear hr
      go_wp2
      go_ret2
      have hKK:=HK.out
      exact ⟨hb3,.inr ⟨⟨HN.out.1,HN.out.2,by rw [<- hKK];exact hkc⟩,_,rfl,by rw [<- hKK];exact ho1⟩⟩
  ·have ht : ((s.size : Int) != 1 + (b0.toNat : Int) * 9) = true:=by simp;omega
   have H1 : Hid (¬ s.size = 1 + 9 * b0.toNat):=h1
   clear h1
   go_enter Tryz.func88,Tryz.ntmps88
   go_wp2
   go_ret2
   exact ⟨Below.refl _ _,.inl ⟨fun d=>H1.out (by rw [<- toList_size,d.2.1,HM.out]),rfl⟩⟩
end Go.Proofs.YtilkdeghknjjhaaGreatDoor
namespace Go.Proofs.YtilkdeghknjjhaaGreatDoor
open Go.RowKit M
theorem ext_ent {l m : List (Int × Int)} (hl : l.length = m.length) (h : ∀ j,j < l.length->ent l j = ent m j) : l = m:=by
 apply List.ext_getElem hl
 intro i h1 h2
 have:=h i h1
 simpa [ent,List.getD,List.getElem?_eq_getElem h1,List.getElem?_eq_getElem h2] using this
end Go.Proofs.YtilkdeghknjjhaaGreatDoor
