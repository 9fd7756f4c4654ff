/- A part of the proof. -/
import Derived.Test.YtilkdeghknjjhaaGreatDoorPart29
set_option maxRecDepth 20000
set_option maxHeartbeats 3200000
set_option linter.unusedVariables false
namespace Go.Proofs.YtilkdeghknjjhaaGreatDoor
open Go.RowKit M
variable {t : ByteArray}
noncomputable def decC (l : Bs) : List (Int × Int):=open Classical in if Dec l then rdTo l (hd l) else []
noncomputable def decN (l : Bs) : Int:=open Classical in if Dec l then 0 else 2
theorem Decode_f (l : Bs) (w : World) (hs : l.length<=1000000000) :
  Calls Tryz.prog 88 #[.string (ba l)] w fun e w'=>∃ v,e = .returned (.tuple #[v,.int .i64 (decN l)])/\w'.ownsRow w.heap.size 183 2 v (decC l).length (cellsE (decC l))/\Below w.heap.size w w':=by
 refine (Decode_u (ba l) w (by rw [ba_size];unfold maxLen;omega)).mono fun e w' ⟨v,J,c,he,hr,ho,hb⟩=>?_
 have e1 : (ba l).data.toList = l:=bs_ba l
 unfold DR at hr
 rw [e1] at hr
 rcases hr with ⟨h1,rfl,rfl⟩ | ⟨h1,rfl,rfl⟩
 ·exact ⟨v,by rw [he];unfold decN;rw [if_neg h1],by unfold decC;rw [if_neg h1];exact ho,hb⟩
 ·exact ⟨v,by rw [he];unfold decN;rw [if_pos h1],by unfold decC;rw [if_pos h1];exact ho,hb⟩
theorem rclk_dec (l : Bs) (r : Rr) : rclk l r = (decC (rpart l r).1,if decN (rpart l r).1 = 0 then (rpart l r).2 else ⟨(rpart l r).2.a,true⟩):=by
 unfold rclk decC decN
 by_cases h : Dec (rpart l r).1
 ·rw [if_pos h,if_pos h,if_pos h];rfl
 ·rw [if_neg h,if_neg h,if_neg h];rfl
theorem rpart_fits {r : Rr} (h : Fits t r) : Fits t (rpart (bs t) r).2/\r.a<=(rpart (bs t) r).2.a:=by
 refine ⟨rtake_fits (rlen_fits h) _,?_⟩
 have mono : ∀ (l : Bs) (r : Rr) n,r.a<=(rtake l r n).2.a:=fun l r n=>by
  unfold rtake;split
  ·exact Nat.le_refl _
  ·exact Nat.le_add_right _ _
 exact Nat.le_trans (mono _ r 1) (mono _ _ _)
theorem clock_any (g : Nat) (t : ByteArray) (r : Rr) (w : World) (h : RdrAt w g t r) (hf : Fits t r) :
  Calls Tryz.prog 283 #[.pointer (some ⟨g,0,none⟩)] w fun e w'=>∃ v,e = .returned v/\w'.ownsRow w.heap.size 183 2 v (rclk (bs t) r).1.length (cellsE (rclk (bs t) r).1)/\RdrAt w' g t (rclk (bs t) r).2/\Tr (One g) w w':=by
 have hL:=length_any g t r w h hf
 have hle:=rlen_le (bs t) r
 obtain ⟨hpf,hpa⟩:=rpart_fits hf
 have HT : Hid (∀ w1,RdrAt w1 g t (rlen (bs t) r).2->Calls Tryz.prog 248 #[.pointer (some ⟨g,0,none⟩),.int .i64 (((rlen (bs t) r).1 : Int) * 9)] w1 fun e w'=>(∃ s,e = .returned (.string s))/\RdrAt w' g t (rpart (bs t) r).2/\Tr (One g) w1 w') :=
  fun w1 h1=>by
   have:=take_any g t _ ((rlen (bs t) r).1 * 9) w1 h1 (rlen_fits hf) (by omega)
   rw [show ((((rlen (bs t) r).1 * 9 : Nat)) : Int) = ((rlen (bs t) r).1 : Int) * 9 by omega] at this
   exact this.mono fun e w' ⟨he,h2,h3⟩=>⟨⟨_,he⟩,h2,h3⟩
 have hpart : ba (rpart (bs t) r).1 = t.extract r.a (rpart (bs t) r).2.a:=by
  have : (rpart (bs t) r).1 = ((bs t).drop r.a).take ((rpart (bs t) r).2.a - r.a):=rfl
  rw [this,ba_extract]
  congr 1
  omega
 have hpl : (rpart (bs t) r).1.length<=1000000000:=by
  have : (rpart (bs t) r).1 = ((bs t).drop r.a).take ((rpart (bs t) r).2.a - r.a):=rfl
  rw [this]
  have h1 : ((bs t).drop r.a).length<=t.size:=by rw [List.length_drop,bs_len];omega
  have h2:=List.length_take_le ((rpart (bs t) r).2.a - r.a) ((bs t).drop r.a)
  have:=hf.1
  rw [List.length_take]
  omega
 have HD : Hid (∀ w1,Calls Tryz.prog 88 #[.string (t.extract r.a (rpart (bs t) r).2.a)] w1 fun e w'=>∃ v,e = .returned (.tuple #[v,.int .i64 (decN (rpart (bs t) r).1)])/\w'.ownsRow w1.heap.size 183 2 v (decC (rpart (bs t) r).1).length (cellsE (decC (rpart (bs t) r).1))/\Below w1.heap.size w1 w'):=fun w1=>by
  have:=Decode_f (rpart (bs t) r).1 w1 hpl
  rw [hpart] at this
  exact this
 have HR : Hid (rclk (bs t) r = (decC (rpart (bs t) r).1,if decN (rpart (bs t) r).1 = 0 then (rpart (bs t) r).2 else ⟨(rpart (bs t) r).2.a,true⟩)):=rclk_dec _ _
 have HN : Hid (decN (rpart (bs t) r).1 = 0\/decN (rpart (bs t) r).1 = 2):=by
  show _\/_
  unfold decN
  split
  ·exact .inl rfl
  ·exact .inr rfl
 obtain ⟨C,hC⟩ : ∃ C,decC (rpart (bs t) r).1 = C:=⟨_,rfl⟩
 obtain ⟨m,hm⟩ : ∃ m,decN (rpart (bs t) r).1 = m:=⟨_,rfl⟩
 rw [hm,hC] at HR HD
 rw [hm] at HN
 obtain ⟨q,hq⟩ : ∃ q,(rpart (bs t) r).2 = q:=⟨_,rfl⟩
 rw [hq] at HR HT HD hpf hpa
 obtain ⟨n,hn⟩ : ∃ n,(rlen (bs t) r).1 = n:=⟨_,rfl⟩
 rw [hn] at HT hL hle
 obtain ⟨hp1,hp2⟩:=hpf
 have c1 : w.cell? ⟨g,1,none⟩ = some (.int .i64 r.a):=(h.cell 1).trans rfl
 have a0 : (0 : Int)<=(r.a : Int):=by omega
 have a1 : (r.a : Int)<=(q.a : Int):=by omega
 have a2 : (q.a : Int)<=(t.size : Int):=by omega
 have n0 : (0 : Int)<=(n : Int):=by omega
 have n1 : (n : Int)<=255:=by omega
 clear hq hn hC hm h hf hpart hpl hp1 hp2 hle hpa
 go_enter Tryz.func283,Tryz.ntmps283
 go_wp2_with fail
 refine hL.mono ?_
 rintro e w1 ⟨rfl,h1,t1⟩
 go_wp2_with fail
 refine (HT.out w1 h1).mono ?_
 rintro e w2 ⟨⟨s,rfl⟩,h2,t2⟩
 have t3:=t1.trans t2
 have d0 : w2.cell? ⟨g,0,none⟩ = some (.string t):=(h2.cell 0).trans rfl
 have d1 : w2.cell? ⟨g,1,none⟩ = some (.int .i64 q.a):=(h2.cell 1).trans rfl
 have hs3:=t3.size
 have H2 : Hid (RdrAt w2 g t q):=h2
 clear t1 t2 h1 h2 c1
 go_upto_region 3 with (fail)
 go_cut [4,5] from 15 to 29 (fun v c wx=>c = .int .i64 m/\wx.ownsRow w2.heap.size 183 2 v C.length (cellsE C)/\Below w2.heap.size w2 wx)
 case first =>
  go_region_with (first
   | (go_at_call 88;refine (HD.out _).mono ?_;rintro e w' ⟨v,rfl,ho,hb⟩))
  all_goals (go_wp2_with fail;go_meet;exact ⟨rfl,ho,⟨hb.os,hb.tape,hb.output,hb.size,hb.block⟩⟩)
 case rest =>
  obtain ⟨rfl,ho,hb⟩:=hcut
  have h3:=H2.out.below hb
  have t4:=t3.trans (below_tr hb (One g))
  have ho':=own_base ho hs3
  obtain ⟨av,cv,hvv⟩:=own_shape ho
  subst hvv
  have c2 : wc.cell? ⟨g,2,none⟩ = some (.bool q.s):=(h3.cell 2).trans rfl
  have fz : ∀ o,wc.frozen? ⟨g,o,none⟩ = false:=h3.frozen
  rcases HN.out with rfl | rfl
  ·have HR2 : Hid ((rclk (bs t) r).1 = C/\(rclk (bs t) r).2 = q):=by show _/\_;rw [HR.out];simp
   clear HD HR hb ho
   go_wp2
   go_ret
   exact ⟨_,rfl,by rw [HR2.out.1];exact ho',by rw [HR2.out.2];exact h3,t4⟩
  ·have HR2 : Hid ((rclk (bs t) r).1 = C/\(rclk (bs t) r).2 = ⟨q.a,true⟩):=by show _/\_;rw [HR.out];simp
   have HO : Hid ((wc.setCell ⟨g,2,none⟩ (.bool true)).ownsRow w.heap.size 183 2 (.slice av C.length cv) C.length (cellsE C)):=own_setCell ho' h3 (by decide)
   clear HD HR hb ho
   go_wp2
   go_ret
   exact ⟨_,rfl,by rw [HR2.out.1];exact HO.out,by rw [HR2.out.2];exact h3.setS true,t4.set1 _ _⟩
theorem rclk_fits {r : Rr} (h : Fits t r) : Fits t (rclk (bs t) r).2:=by
 rw [rclk_dec]
 have:=(rpart_fits h).1
 show Fits t (if _ then _ else _)
 split
 ·exact this
 ·exact this
theorem rdot_fits {r : Rr} (h : Fits t r) : Fits t (rdot (bs t) r).2:=by
 have:=rclk_fits h
 unfold rdot
 split
 ·exact this
 ·exact this
theorem dot_any (g : Nat) (t : ByteArray) (r : Rr) (w : World) (h : RdrAt w g t r) (hf : Fits t r) :
  Calls Tryz.prog 282 #[.pointer (some ⟨g,0,none⟩)] w fun e w'=>e = .returned (.tuple #[.int .i64 (rdot (bs t) r).1.1,.int .i64 (rdot (bs t) r).1.2])/\RdrAt w' g t (rdot (bs t) r).2/\Tr (One g) w w':=by
 have hC:=clock_any g t r w h hf
 have HR : Hid (rdot (bs t) r = if (rclk (bs t) r).1.length ≠ 1 then ((0,0),⟨(rclk (bs t) r).2.a,true⟩) else ((rclk (bs t) r).1.getD 0 (0,0),(rclk (bs t) r).2)):=rfl
 obtain ⟨C,hCC⟩ : ∃ C,(rclk (bs t) r).1 = C:=⟨_,rfl⟩
 obtain ⟨q,hq⟩ : ∃ q,(rclk (bs t) r).2 = q:=⟨_,rfl⟩
 rw [hCC,hq] at hC HR
 clear hCC hq h hf
 go_enter Tryz.func282,Tryz.ntmps282
 go_wp2_with fail
 refine hC.mono ?_
 rintro e w1 ⟨v,rfl,ho,h1,t1⟩
 obtain ⟨a,cap,rfl,h2,h3,hA⟩:=own_cells ho
 clear h2 h3
 by_cases hl : C.length = 1
 ·have HR2 : Hid (rdot (bs t) r = (C.getD 0 (0,0),q)):=by show _ = _;rw [HR.out,if_neg (by omega)]
  obtain ⟨x,rfl⟩ : ∃ x,C = [x]:=List.length_eq_one_iff.1 hl
  obtain ⟨b,rfl,hb,hc⟩:=hA (by simp)
  have e0:=hc 0 _ rfl
  have e1:=hc 1 _ rfl
  clear hc hA HR hl ho
  go_wp2_with fail
  go_quiet (fail)
  go_wp2
  go_ret2
  exact ⟨by rw [HR2.out];rfl,by rw [HR2.out];exact h1,t1.drewN _⟩
 ·have HR2 : Hid (rdot (bs t) r = ((0,0),⟨q.a,true⟩)):=by show _ = _;rw [HR.out,if_pos hl]
  have c2 : w1.cell? ⟨g,2,none⟩ = some (.bool q.s):=(h1.cell 2).trans rfl
  have fz : ∀ o,w1.frozen? ⟨g,o,none⟩ = false:=h1.frozen
  have hlb : ((C.length : Int) != 1) = true:=by simp;omega
  clear hA HR hl ho
  go_wp2
  go_ret2
  exact ⟨by rw [HR2.out];rfl,by rw [HR2.out];exact h1.setS true,t1.set1 _ _⟩
end Go.Proofs.YtilkdeghknjjhaaGreatDoor
