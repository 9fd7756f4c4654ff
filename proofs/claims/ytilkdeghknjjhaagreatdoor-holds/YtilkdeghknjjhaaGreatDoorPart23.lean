/- A part of the proof. -/
import Derived.Test.YtilkdeghknjjhaaGreatDoorPart22
set_option maxRecDepth 20000
set_option maxHeartbeats 3200000
set_option linter.unusedVariables false
namespace Go.Proofs.YtilkdeghknjjhaaGreatDoor
open Go.RowKit M
noncomputable def encT (c : List (Int × Int)) : ByteArray:=open Classical in if Clk c then strOfNums (encL c) else ByteArray.empty
theorem refEncode_f (v : Value) (l : List (Int × Int)) (w : World) (hrd : Rd w v l) :
  Calls Tryz.prog 171 #[v] w fun e w'=>∃ n,e = .returned (.tuple #[.string (encT l),.int .i64 n])/\Below w.heap.size w w':=by
 by_cases hk : Clk l
 ·refine (refEncode_yes v l w hrd hk).mono ?_
  rintro e w' ⟨rfl,hb⟩
  exact ⟨0,by unfold encT;rw [if_pos hk],hb⟩
 ·refine (refEncode_no v l w hrd hk).mono ?_
  rintro e w' ⟨rfl,hb⟩
  exact ⟨1,by unfold encT;rw [if_neg hk],hb⟩
def keyOK (k : ByteArray) : Bool:=decide (1<=k.size) && decide (k.size<=40)
def valsS (l : List Sb) : List ByteArray:=l.map Sb.v
theorem valsS_snoc (l : List Sb) (k : Nat) (h : k < l.length) : valsS (l.take (k + 1)) = valsS (l.take k) ++ [(sb l k).v]:=by
 unfold valsS
 rw [List.take_succ_eq_append_getElem h,sb_get l k h,List.map_append]
 rfl
def GetEnd (key : ByteArray) (S : Se) (B : Nat) (e : Ending) (w' : World) : Prop :=
 ∃ v t m,e = .returned (.tuple #[v,.string t,.int .i64 m]) /\
  ((keyOK key = false/\v = .slice none 0 0/\t = ByteArray.empty/\m = 1)\/(keyOK key = true/\S.L = []/\v = .slice none 0 0/\t = ByteArray.empty/\m = 8) \/
   (keyOK key = true/\S.L ≠ []/\OwnX w' B v (valsS S.L)/\t = encT S.C/\m = 0))
theorem refGet_any (Z : Nat->Prop) (p : Nat) (node : Int) (L : List MuV) (vh : Value) (key : ByteArray) (w : World) (h : ModIn Z w p node L vh) (hl : L.length<=1000000000) :
  Calls Tryz.prog 110 #[.pointer (some ⟨p,0,none⟩),.string key] w fun e w'=>GetEnd key (ofM node (L.map MuV.x) key) w.heap.size e w'/\Below w.heap.size w w':=by
 obtain ⟨i0,hi,hz0,hz1,hz2⟩:=info_parts infoX
 have hOf:=Of_any Z p node L vh key w h hl
 obtain ⟨S,hS⟩ : ∃ S,ofM node (L.map MuV.x) key = S:=⟨_,rfl⟩
 rw [hS] at hOf
 rw [hS]
 clear hS
 by_cases h1 : key.size < 1
 ·have hk : keyOK key = false:=by unfold keyOK;simp;omega
  have HK : Hid (GetEnd key S w.heap.size (.returned (.tuple #[.slice none 0 0,.string ⟨#[]⟩,.int .i64 1])) w):=⟨_,_,_,rfl,.inl ⟨hk,rfl,rfl,rfl⟩⟩
  have h1' : (key.size : Int) < 1:=by omega
  clear hk h1 h hOf
  go_enter Tryz.func110,Tryz.ntmps110
  go_wp2
  go_ret3
  exact ⟨HK.out,Below.refl _ _⟩
 by_cases h2 : 40 < key.size
 ·have hk : keyOK key = false:=by unfold keyOK;simp;omega
  have HK : Hid (GetEnd key S w.heap.size (.returned (.tuple #[.slice none 0 0,.string ⟨#[]⟩,.int .i64 1])) w):=⟨_,_,_,rfl,.inl ⟨hk,rfl,rfl,rfl⟩⟩
  have h1' : ¬ (key.size : Int) < 1:=by omega
  have h2' : 40 < (key.size : Int):=by omega
  clear hk h1 h2 h hOf
  go_enter Tryz.func110,Tryz.ntmps110
  go_wp2
  go_ret3
  exact ⟨HK.out,Below.refl _ _⟩
 have HK : Hid (keyOK key = true):=by show keyOK key = true;unfold keyOK;simp;omega
 have h1' : ¬ (key.size : Int) < 1:=by omega
 have h2' : ¬ 40 < (key.size : Int):=by omega
 clear h1 h2
 go_enter Tryz.func110,Tryz.ntmps110
 go_wp2_with fail
 refine hOf.mono ?_
 rintro e w1 ⟨r1,r2,rfl,o1,o2,hb1,l1,l2⟩
 obtain ⟨a1,k1,hr1,_⟩:=own_cells o1
 obtain ⟨a2,k2,hr2,_,_,hA⟩:=own_cells o2
 subst hr1
 subst hr2
 clear h hOf
 go_upto_region 4 with (fail)
 obtain ⟨W,hW,hb2,t0,t1,hbX⟩ : ∃ W,(w1.alloc (.cells #[.slice a1 S.C.length k1,.slice a2 S.L.length k2] 117)) = W/\Below w.heap.size w W/\W.cell? ⟨w1.heap.size,0,none⟩ = some (.slice a1 S.C.length k1)/\W.cell? ⟨w1.heap.size,1,none⟩ = some (.slice a2 S.L.length k2)/\Below w1.heap.size w1 W :=
  ⟨_,rfl,hb1.alloc hb1.size _,by simp [go_sem],by simp [go_sem],(Below.refl _ _).alloc (Nat.le_refl _) _⟩
 rw [hW]
 have hs2:=hb2.size
 have HR1 : Hid (Rd W (.slice a1 S.C.length k1) S.C):=(Rd.own o1 rfl).below hbX
 have HR2 : Hid (∀ j,j < S.L.length->∃ g,a2 = some ⟨g,0,none⟩/\W.cell? ⟨g,j * 3 + 2,none⟩ = some (.string (sb S.L j).v)):=by
  intro j hj
  obtain ⟨g,ha,_,hc⟩:=hA (by omega)
  exact ⟨g,ha,cell_later hbX (hc _ _ (cellsS_at S.L j hj).2.2)⟩
 clear hW hA o1 o2 hb1
 by_cases hn : S.L = []
 ·have HE : Hid (GetEnd key S w.heap.size (.returned (.tuple #[.slice none 0 0,.string ⟨#[]⟩,.int .i64 8])) W):=⟨_,_,_,rfl,.inr (.inl ⟨HK.out,hn,rfl,rfl,rfl⟩)⟩
  have hlen : S.L.length = 0:=by rw [hn];rfl
  rw [hlen] at t1
  clear hn l1 l2 hlen
  go_wp2
  go_ret3
  exact ⟨HE.out,hb2⟩
 have HN : Hid (S.L ≠ []):=hn
 have HL6 : Hid (S.L.length<=6):=l2
 have hlen : 0 < S.L.length:=List.length_pos_iff.2 hn
 have hlen0 : ((S.L.length : Int) == 0) = false:=by simp;omega
 clear hn l1 l2
 go_wp2_with fail
 go_loopw [8,9] (fun v i wr=>∃ k : Nat,k<=S.L.length/\i = .int .i64 k/\OwnX wr W.heap.size v (valsS (S.L.take k))/\Below W.heap.size W wr) (fun _ i _=>S.L.length - (intOf i).toNat)
 case atStart=>exact ⟨0,Nat.zero_le _,rfl,World.ownsRow_nil _ _ _ _,Below.refl _ _⟩
 case round =>
  obtain ⟨k,hk,rfl,ho,hb⟩:=hrel
  have hsz:=hb.size
  have d0:=cell_later hb t0
  have d1:=cell_later hb t1
  obtain ⟨a3,cap3,hu3⟩:=own_shape ho
  subst hu3
  have hL6:=HL6.out
  by_cases hlt : k < S.L.length
  ·obtain ⟨g,rfl,hr⟩:=HR2.out k hlt
   have q1 : (k : Int) < (S.L.length : Int):=by omega
   have q0 : (0 : Int)<=(k : Int):=by omega
   have e0:=cell_later hb hr
   have hlen2 : (valsS (S.L.take k)).length<=k:=by unfold valsS;simp;omega
   have HS : Hid (valsS (S.L.take (k + 1)) = valsS (S.L.take k) ++ [(sb S.L k).v]):=valsS_snoc S.L k hlt
   obtain ⟨x,hx⟩ : ∃ x,(sb S.L k).v = x:=⟨_,rfl⟩
   rw [hx] at e0 HS
   obtain ⟨U,hU⟩ : ∃ U,valsS (S.L.take k) = U:=⟨_,rfl⟩
   rw [hU] at ho hlen2 HS
   obtain ⟨m,hm⟩ : ∃ m,U.length = m:=⟨_,rfl⟩
   rw [hU]
   unfold OwnX at ho
   rw [hm] at ho hlen2
   rw [hm]
   clear hr hx hU hlen
   go_wp2_with (first
    | (at_builtin;refine wpList_append_own _ rfl _ _ 34 rfl W.heap.size 9 i0 (.string ByteArray.empty) 1 16 Tryz.underlying34 hi hz0 hz1 hz2 rfl (by decide) _ _ _ rfl (ho.alloc _) ⟨wr.heap.size,0,none⟩ 1 1 [.string x] rfl rfl (cells_one_new _ _ _) (by simp;rfl) (by unfold maxLen;omega) (by omega) (by simp;omega) ?_))
   intro v' w2 hown' hgrow _
   have hb3 : Below W.heap.size W w2:=(hb.alloc (by omega) _).grown hgrow (by simp;omega) (fun q hq=>(ho.lt q hq).1)
   go_wp2
   go_roundw
   case rel=>exact ⟨k + 1,by omega,by go_num,by unfold OwnX;rw [HS.out,List.length_append,cellsX_snoc,hm];exact hown',hb3⟩
   case measure=>simp [intOf];omega
  ·have he : k = S.L.length:=by omega
   have HE : Hid (valsS (S.L.take k) = valsS S.L):=by show _ = _;rw [he,List.take_length]
   have q1 : ¬ (k : Int) < (S.L.length : Int):=by omega
   have HO : Hid (OwnX wr W.heap.size (.slice a3 (valsS (S.L.take k)).length cap3) (valsS S.L)):=by rw [<- HE.out];exact ho
   have hb4:=hb2.trans (hb.mono hs2)
   have HRR:=HR1.out.below hb
   clear he ho
   go_wp2_with fail
   refine (refEncode_f _ _ _ HRR).mono ?_
   rintro e w5 ⟨n5,rfl,hb5⟩
   have hb6:=hb4.trans (hb5.mono hb4.size)
   have HO5 : Hid (OwnX w5 w.heap.size (.slice a3 (valsS (S.L.take k)).length cap3) (valsS S.L)):=own_base (own_below HO.out hb5) hs2
   clear hb hb2 hb4 hb5 HRR d0 d1 t0 t1
   go_wp2
   go_ret3
   exact ⟨⟨_,_,_,rfl,.inr (.inr ⟨HK.out,HN.out,HO5.out,rfl,rfl⟩)⟩,hb6⟩
end Go.Proofs.YtilkdeghknjjhaaGreatDoor
namespace Go.Proofs.YtilkdeghknjjhaaGreatDoor
open Go.RowKit M
def clkT (t : ByteArray) : List (Int × Int):=rdTo t.data.toList (hd t.data.toList)
def CtxOK (node : Int) (n : Nat) (t : ByteArray) : Prop:=Dec t.data.toList/\cS (clkT t) node<=n
def CtxEnd (node : Int) (n : Nat) (t : ByteArray) (B : Nat) (e : Ending) (w' : World) : Prop :=
 ∃ v m,e = .returned (.tuple #[v,.int .i64 m])/\((¬ CtxOK node n t/\v = .slice none 0 0/\m = 2)\/(CtxOK node n t/\w'.ownsRow B 183 2 v (clkT t).length (cellsE (clkT t))/\m = 0))
theorem clkT_len (t : ByteArray) : (clkT t).length = hd t.data.toList:=rdTo_len _ _
theorem refcontext_any (Z : Nat->Prop) (p : Nat) (node : Int) (L : List MuV) (vh : Value) (t : ByteArray) (w : World) (h : ModIn Z w p node L vh) (hl : L.length<=1000000000) (hn0 : 0<=node) (hn1 : node<=15) (ht : t.size<=maxLen) :
  Calls Tryz.prog 172 #[.pointer (some ⟨p,0,none⟩),.string t] w fun e w'=>CtxEnd node L.length t w.heap.size e w'/\Below w.heap.size w w':=by
 obtain ⟨nd,rfl⟩:=Int.eq_ofNat_of_zero_le hn0
 obtain ⟨ah,ch,rfl,_⟩:=h.cells
 have c0 : w.cell? ⟨p,0,none⟩ = some (.int .i64 (nd : Int)):=by rw [cell_of_row _ _ _ _ _ _ h.hp];rfl
 have c1 : w.cell? ⟨p,1,none⟩ = some (.slice ah L.length ch):=by rw [cell_of_row _ _ _ _ _ _ h.hp];rfl
 have hl1 : (L.length : Int)<=1000000000:=by omega
 clear h
 go_enter Tryz.func172,Tryz.ntmps172
 go_wp2_with fail
 refine (refDecode_any t w ht).mono ?_
 rintro e w1 ⟨hd1,hb1⟩
 have d0:=cell_later hb1 c0
 have d1:=cell_later hb1 c1
 clear c0 c1
 rcases hd1 with ⟨hno,rfl⟩ | ⟨hyes,v,rfl,ho⟩
 ·have HN : Hid (¬ CtxOK nd L.length t):=fun hh=>hno hh.1
  clear hno
  go_wp2
  go_ret2
  exact ⟨⟨_,_,rfl,.inl ⟨HN.out,rfl,rfl⟩⟩,hb1⟩
 have HY : Hid (Dec t.data.toList):=hyes
 have HO : Hid (w1.ownsRow w.heap.size 183 2 v (clkT t).length (cellsE (clkT t))):=by rw [clkT_len];exact ho
 have hcl : Clk (clkT t):=hyes.2.2
 obtain ⟨a1,k1,hr1,_⟩:=own_cells HO.out
 subst hr1
 have hrd : Rd w1 (.slice a1 (clkT t).length k1) (clkT t):=Rd.own HO.out rfl
 have HCL : Hid (Clk (clkT t)):=hcl
 obtain ⟨C,hC⟩ : ∃ C,clkT t = C:=⟨_,rfl⟩
 have HC : Hid (clkT t = C):=hC
 rw [hC] at HO hrd HCL
 rw [hC]
 clear ho hyes hcl hC
 go_wp2_with fail
 refine (refClock_any _ C w1 hrd).mono ?_
 rintro e w2 ⟨ok,F,rfl,hok,hF,hb2⟩
 have HF : Hid (F = cN C):=hF (hok.2 HCL.out)
 have hs1:=hb1.size
 have hs2:=hb2.size
 have e0:=cell_later hb2 d0
 have e1:=cell_later hb2 d1
 clear hok hF hrd d0 d1
 go_upto_region 5 with (first
  | (refine wpList_store_row rfl 241 _ _ rfl w2.heap.size (arr F) rfl rfl 241 (arr zF) (alloc_lit w2 (arr zF)) (by rw [arr_size];exact info61) (by rw [arr_size,arr_size]) (one_arr _) ?_))
 obtain ⟨w4,hw4,hr4,hb4⟩ : ∃ w4,((w2.alloc (.cells (arr zF) 241)).setRow w2.heap.size (arr F)) = w4/\w4.heap[w2.heap.size]? = some (.cells (arr F) 241 (0,0))/\Below w2.heap.size w2 w4 :=
  ⟨_,rfl,setRow_heap _ _ _ _ _ _ (alloc_lit w2 (arr zF)),below_setRow ((Below.refl _ _).alloc (Nat.le_refl _) _) (Nat.le_refl _) _⟩
 rw [zlit] at hw4
 rw [hw4]
 clear hw4
 have hnd : nd < 16:=by omega
 have g0 : w4.cell? ⟨w2.heap.size,nd,none⟩ = some (.int .i64 (cS C (nd : Int))):=by
  rw [cell_of_row _ _ _ _ _ _ hr4,arr_at _ _ hnd,HF.out];rfl
 have x0:=cell_later hb4 e0
 have x1:=cell_later hb4 e1
 have n0 : (0 : Int)<=(nd : Int):=by omega
 have n1 : (nd : Int) < 16:=by omega
 have hb5:=hb1.trans ((hb2.trans (hb4.mono hs2)).mono hs1)
 have HO4 : Hid (w4.ownsRow w.heap.size 183 2 (.slice a1 C.length k1) C.length (cellsE C)):=own_below (own_below HO.out hb2) hb4
 obtain ⟨q,hq⟩ : ∃ q,cS C (nd : Int) = q:=⟨_,rfl⟩
 have HQ : Hid (cS (clkT t) (nd : Int) = q):=by show _ = _;rw [HC.out];exact hq
 rw [hq] at g0
 clear hb4 hb2 hb1 e0 e1 hr4 hq
 by_cases hgt : (L.length : Int) < q
 ·have HN : Hid (¬ CtxOK nd L.length t):=fun hh=>by have:=hh.2;rw [HQ.out] at this;omega
  have hgd : decide ((L.length : Int) < q) = true:=by simpa using hgt
  go_quiet (fail)
  go_wp2
  go_ret2
  exact ⟨⟨_,_,rfl,.inl ⟨HN.out,rfl,rfl⟩⟩,below_drewN hb5 nq⟩
 ·have HN : Hid (CtxOK nd L.length t):=⟨HY.out,by rw [HQ.out];omega⟩
  go_quiet (fail)
  go_wp2
  go_ret2
  exact ⟨⟨_,_,rfl,.inr ⟨HN.out,by rw [HC.out];exact own_below HO4.out (below_drewN (Below.refl _ _) nq),rfl⟩⟩,below_drewN hb5 nq⟩
end Go.Proofs.YtilkdeghknjjhaaGreatDoor
