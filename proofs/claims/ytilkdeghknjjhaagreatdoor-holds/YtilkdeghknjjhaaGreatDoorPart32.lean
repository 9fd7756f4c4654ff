/- A part of the proof. -/
import Derived.Test.YtilkdeghknjjhaaGreatDoorPart31
set_option maxRecDepth 20000
set_option maxHeartbeats 3200000
set_option linter.unusedVariables false
namespace Go.Proofs.YtilkdeghknjjhaaGreatDoor
open Go.RowKit M
theorem done_no_any (Z : Nat->Prop) (b p : Nat) (s : Sd) (D : Dk) (del : Bool) (k v : ByteArray) (vc : Value) (e f left : Int) (w : World) (h : SdAt w b s) (hd : s.d = .pointer (some ⟨p,0,none⟩)) (hD : DiskAt Z w p D) (h0 : e ≠ 0) (h7 : e ≠ 7) :
  Calls Tryz.prog 113 #[.pointer (some ⟨b,0,none⟩),.agg #[.bool del,.string k,.string v,vc],.int .i64 e,.int .i64 f,.int .i64 left] w fun en w'=>en = .returned (.bool (e == 6 && decide (left < 4000)))/\Below w.heap.size w w':=by
 obtain ⟨W,hW,HB⟩ : ∃ W,w.alloc (.cells #[.bool del,.string k,.string v,vc] 191) = W/\Hid (Below w.heap.size w W):=⟨_,rfl,(Below.refl _ _).alloc (Nat.le_refl _) _⟩
 have c0 : w.cell? ⟨b,0,none⟩ = some (.pointer (some ⟨p,0,none⟩)):=(h.cell 0).trans (congrArg some hd)
 have HT : Hid (Calls Tryz.prog 104 #[.pointer (some ⟨b,0,none⟩),.int .i64 f] W fun e w'=>BoolIs (f < D.failed\/D.life = 0) W e w'):=trouble_any Z b p D f W (cell_later HB.out c0) (hD.below HB.out)
 have h0b : (e == 0) = false:=by simp [h0]
 have h7b : (e == 7) = false:=by simp [h7]
 clear h hd hD c0
 by_cases h6 : e = 6
 ·subst h6
  by_cases hl : left < 4000
  ·have hlb : decide (left < 4000) = true:=by simp [hl]
   go_enter Tryz.func113,Tryz.ntmps113
   go_upto_region 1 with (fail)
   clear hW
   go_wp2_with fail
   refine HT.out.mono ?_
   rintro en w2 ⟨may,rfl,_,b2⟩
   go_wp2
   go_ret
   exact ⟨by simp [hl],belowN HB.out b2⟩
  ·have hlb : decide (left < 4000) = false:=by simp [hl]
   go_enter Tryz.func113,Tryz.ntmps113
   go_upto_region 1 with (fail)
   clear hW
   go_wp2_with fail
   refine HT.out.mono ?_
   rintro en w2 ⟨may,rfl,_,b2⟩
   go_wp2
   go_ret
   exact ⟨by simp [hl],belowN HB.out b2⟩
 ·have h6b : (e == 6) = false:=by simp [h6]
  go_enter Tryz.func113,Tryz.ntmps113
  go_upto_region 1 with (fail)
  clear hW
  go_wp2_with fail
  refine HT.out.mono ?_
  rintro en w2 ⟨may,rfl,_,b2⟩
  go_wp2
  go_ret
  exact ⟨by simp [h6],belowN HB.out b2⟩
def DoneDE (w : World) (b : Nat) (s : Sd) (del : Bool) (k v : ByteArray) (vc : Value) (P : Prop) (en : Ending) (w' : World) : Prop :=
 ∃ (r : Bool) (g : Nat),en = .returned (.bool r)/\(r = true ↔ P)/\w.heap.size<=g/\SdAt w' b { s with fl:=.slice (some ⟨g,0,none⟩) 1 1,ro:=true }/\w'.heap[g]? = some (.cells #[.bool del,.string k,.string v,vc] 191 (0,0))/\Tr (fun q=>q = b) w w'
theorem done_disk_any (Z : Nat->Prop) (b p : Nat) (s : Sd) (D : Dk) (del : Bool) (k v : ByteArray) (vc : Value) (f left : Int) (w : World) (h : SdAt w b s) (hd : s.d = .pointer (some ⟨p,0,none⟩)) (hD : DiskAt Z w p D) :
  Calls Tryz.prog 113 #[.pointer (some ⟨b,0,none⟩),.agg #[.bool del,.string k,.string v,vc],.int .i64 7,.int .i64 f,.int .i64 left] w fun en w'=>DoneDE w b s del k v vc (f < D.failed\/D.life = 0) en w':=by
 obtain ⟨W,hW,HB,Hrow⟩ : ∃ W,w.alloc (.cells #[.bool del,.string k,.string v,vc] 191) = W/\Hid (Below w.heap.size w W)/\Hid (W.heap[w.heap.size]? = some (.cells #[.bool del,.string k,.string v,vc] 191 (0,0))):=⟨_,rfl,(Below.refl _ _).alloc (Nat.le_refl _) _,heap_alloc_new w _⟩
 have c0 : w.cell? ⟨b,0,none⟩ = some (.pointer (some ⟨p,0,none⟩)):=(h.cell 0).trans (congrArg some hd)
 have HT : Hid (Calls Tryz.prog 104 #[.pointer (some ⟨b,0,none⟩),.int .i64 f] W fun e w'=>BoolIs (f < D.failed\/D.life = 0) W e w'):=trouble_any Z b p D f W (cell_later HB.out c0) (hD.below HB.out)
 have HS : Hid (∀ X,Below W.heap.size W X->SdAt X b s/\X.cell? ⟨w.heap.size,0,none⟩ = some (.bool del)/\X.cell? ⟨w.heap.size,1,none⟩ = some (.string k)/\X.cell? ⟨w.heap.size,2,none⟩ = some (.string v)/\X.cell? ⟨w.heap.size,3,none⟩ = some vc):=fun X hX=>by
  have hcell : ∀ o,X.cell? ⟨w.heap.size,o,none⟩ = #[Value.bool del,.string k,.string v,vc][o]?:=fun o=>by rw [cell_of_row _ _ _ _ _ _ (heap_later hX Hrow.out)]
  exact ⟨(h.below HB.out).below hX,(hcell 0).trans rfl,(hcell 1).trans rfl,(hcell 2).trans rfl,(hcell 3).trans rfl⟩
 have hbw:=h.lt
 clear h hd hD c0
 go_enter Tryz.func113,Tryz.ntmps113
 go_upto_region 1 with (fail)
 clear hW
 go_wp2_with fail
 refine HT.out.mono ?_
 rintro en w2 ⟨may,rfl,hmay,b2⟩
 have HM : Hid (may = true ↔ f < D.failed\/D.life = 0):=hmay
 obtain ⟨hs2,m0,m1,m2,m3⟩:=HS.out w2 b2
 have hal : ∀ o,Below w2.heap.size w2 (w2.alloc o):=fun o=>(Below.refl _ _).alloc (Nat.le_refl _) o
 have q6 : ∀ o,(w2.alloc o).cell? ⟨b,6,none⟩ = some s.fl:=fun o=>((hs2.below (hal o)).cell 6).trans rfl
 have qf : ∀ o q,(w2.alloc o).frozen? ⟨b,q,none⟩ = false:=fun o q=>(hs2.below (hal o)).frozen q
 have HB2 : Hid (Below w.heap.size w w2/\SdAt w2 b s):=⟨belowN HB.out b2,hs2⟩
 clear hmay b2 hs2 HT HS hal
 go_upto_region 14 with (fail)
 obtain ⟨W3,hW3,HS3⟩ : ∃ W3,((w2.alloc (.cells #[.bool del,.string k,.string v,vc] 191)).setCell ⟨b,6,none⟩ (.slice (some ⟨w2.heap.size,0,none⟩) 1 1)) = W3/\Hid (SdAt W3 b { s with fl:=.slice (some ⟨w2.heap.size,0,none⟩) 1 1 }/\W3.heap[w2.heap.size]? = some (.cells #[.bool del,.string k,.string v,vc] 191 (0,0))/\Tr (fun q=>q = b) w W3):=by
  have hs:=HB2.out.2
  have hlt:=hs.lt
  have ha : Below w2.heap.size w2 (w2.alloc (.cells #[.bool del,.string k,.string v,vc] 191)):=(Below.refl _ _).alloc (Nat.le_refl _) _
  refine ⟨_,rfl,(heap_setCell_self (hs.below ha) 6 _).trans rfl,?_,?_⟩
  ·have h1:=heap_alloc_new w2 (.cells #[.bool del,.string k,.string v,vc] 191)
   rw [<- h1]
   exact Below.heap_setCell _ _ _ _ (fun e=>by have e : w2.heap.size = b:=e;omega)
  ·have t : Tr (fun q=>q = b) w (w2.alloc (.cells #[.bool del,.string k,.string v,vc] 191)):=(below_tr HB2.out.1 _).trans (below_tr ha _)
   exact t.setCell (p:=⟨b,6,none⟩) rfl _
 rw [hW3]
 have c10 : W3.cell? ⟨b,10,none⟩ = some (.bool s.ro):=(HS3.out.1.cell 10).trans rfl
 have fz:=HS3.out.1.frozen
 have HG : Hid (w.heap.size<=w2.heap.size/\b < w.heap.size):=⟨HB2.out.1.size,hbw⟩
 clear hW3 q6 qf m0 m1 m2 m3 hbw HB2
 go_wp2
 go_ret
 refine ⟨may,w2.heap.size,rfl,HM.out,HG.out.1,HS3.out.1.setRO true,?_,HS3.out.2.2.setCell (p:=⟨b,10,none⟩) rfl _⟩
 exact (Below.heap_setCell _ _ _ _ (fun e=>by have e : w2.heap.size = b:=e;have:=HG.out;omega)).trans HS3.out.2.1
end Go.Proofs.YtilkdeghknjjhaaGreatDoor
namespace Go.Proofs.YtilkdeghknjjhaaGreatDoor
open Go.RowKit M
theorem infoMt : (Tryz.prog.info? 111).map (·.size) = some 6:=by kernel_rfl
def mtZ : Array Value:=#[.bool false,.int .i64 0,.int .i64 0,.string ⟨#[]⟩,.slice none 0 0,.string ⟨#[]⟩]
theorem one_mt (b : Bool) (n m : Int) (s t : ByteArray) (a : Option Addr) (l c : Nat) : (#[Value.bool b,Value.int .i64 n,Value.int .i64 m,Value.string s,Value.slice a l c,Value.string t] : Array Value).all (·.oneCell') = true:=by simp [Value.oneCell']
theorem Tr.setNew {Z : Nat->Prop} {a w : World} (h : Tr Z a w) {k : Nat} (hk : a.heap.size<=k) (r : Array Value) : Tr Z a (w.setRow k r) :=
 ⟨h.os,h.tape,h.output,by have:=h.size;simp [World.setRow];exact this,fun i hi hz=>(setRow_other w k i r (fun e=>by omega)).trans (h.block i hi hz)⟩
theorem result_mut (tmps : Array Value) (w : World) (g : Nat) (cs : Array Value) (hs : cs.size = 6) (h4 : tmps.getD 4 undef = .pointer (some ⟨g,0,none⟩)) (hg : w.heap[g]? = some (.cells cs 111 (0,0))) :
  (results Tryz.f264 tmps).run Tryz.prog w = .ok (.agg cs) w:=by
 have hl:=run_loadVar_row (P:=Tryz.prog) w g 111 111 cs (0,0) _ hg Tryz.underlying111 rfl (by rw [hs];exact infoMt)
 have h4' : tmps[4]?.getD undef = .pointer (some ⟨g,0,none⟩):=by simpa using h4
 simp [results,Tryz.results264,h4',asAddr,hl]
theorem mutation_any (g : Nat) (t : ByteArray) (r : Rr) (gone : Bool) (w : World) (h : RdrAt w g t r) (hf : Fits t r) :
  Calls Tryz.prog 264 #[.pointer (some ⟨g,0,none⟩),.bool gone] w fun e w'=>∃ vc,e = .returned (.agg #[.bool gone,.int .i64 (rmut (bs t) r gone).1.node,.int .i64 (rmut (bs t) r gone).1.count,.string (rmut (bs t) r gone).1.k,vc,.string (rmut (bs t) r gone).1.v]) /\
   w'.ownsRow w.heap.size 183 2 vc (rmut (bs t) r gone).1.c.length (cellsE (rmut (bs t) r gone).1.c)/\RdrAt w' g t (rmut (bs t) r gone).2/\Tr (One g) w w':=by
 have hg : g < w.heap.size:=(Array.getElem?_eq_some_iff.1 h).1
 obtain ⟨D,hD⟩ : ∃ D,rdot (bs t) r = D:=⟨_,rfl⟩
 obtain ⟨C,hC⟩ : ∃ C,rclk (bs t) D.2 = C:=⟨_,rfl⟩
 obtain ⟨K,hK⟩ : ∃ K,rwords (bs t) C.2 = K:=⟨_,rfl⟩
 obtain ⟨V,hV⟩ : ∃ V,rwords (bs t) K.2 = V:=⟨_,rfl⟩
 have hM : rmut (bs t) r gone = (⟨gone,D.1.1,D.1.2,ba K.1,C.1,ba V.1⟩,V.2):=by unfold rmut;simp only [hD,hC,hK,hV]
 have f1 : Fits t D.2:=by rw [<- hD];exact rdot_fits hf
 have f2 : Fits t C.2:=by rw [<- hC];exact rclk_fits f1
 have f3 : Fits t K.2:=by rw [<- hK];exact rwords_fits f2
 have H1 : Hid (∀ w1,RdrAt w1 g t r->Calls Tryz.prog 282 #[.pointer (some ⟨g,0,none⟩)] w1 fun e w'=>e = .returned (.tuple #[.int .i64 D.1.1,.int .i64 D.1.2])/\RdrAt w' g t D.2/\Tr (One g) w1 w'):=fun w1 h1=>by rw [<- hD];exact dot_any g t r w1 h1 hf
 have H2 : Hid (∀ w1,RdrAt w1 g t D.2->Calls Tryz.prog 283 #[.pointer (some ⟨g,0,none⟩)] w1 fun e w'=>∃ v,e = .returned v/\w'.ownsRow w1.heap.size 183 2 v C.1.length (cellsE C.1)/\RdrAt w' g t C.2/\Tr (One g) w1 w'):=fun w1 h1=>by rw [<- hC];exact clock_any g t _ w1 h1 f1
 have H3 : Hid (∀ w1,RdrAt w1 g t C.2->Calls Tryz.prog 284 #[.pointer (some ⟨g,0,none⟩)] w1 fun e w'=>e = .returned (.string (ba K.1))/\RdrAt w' g t K.2/\Tr (One g) w1 w'):=fun w1 h1=>by rw [<- hK];exact words_any g t _ w1 h1 f2
 have H4 : Hid (∀ w1,RdrAt w1 g t K.2->Calls Tryz.prog 284 #[.pointer (some ⟨g,0,none⟩)] w1 fun e w'=>e = .returned (.string (ba V.1))/\RdrAt w' g t V.2/\Tr (One g) w1 w'):=fun w1 h1=>by rw [<- hV];exact words_any g t _ w1 h1 f3
 rw [hM]
 clear hM hD hC hK hV f1 f2 f3 hf
 go_enter Tryz.func264,Tryz.ntmps264
 go_upto_region 1 with (fail)
 obtain ⟨W,hW,HR,HB,HA⟩ : ∃ W,(w.alloc (.cells #[.bool false,.int .i64 0,.int .i64 0,.string ⟨#[]⟩,.slice none 0 0,.string ⟨#[]⟩] 111)) = W/\Hid (W.heap[w.heap.size]? = some (.cells mtZ 111 (0,0)))/\Hid (Below w.heap.size w W)/\Hid (RdrAt W g t r) :=
  ⟨_,rfl,heap_alloc_new w _,(Below.refl _ _).alloc (Nat.le_refl _) _,h.below ((Below.refl _ _).alloc (Nat.le_refl _) _)⟩
 rw [hW]
 clear hW h
 go_wp2_with fail
 refine (H1.out W HA.out).mono ?_
 rintro e w1 ⟨rfl,h1,t1⟩
 go_wp2_with fail
 refine (H2.out w1 h1).mono ?_
 rintro e w2 ⟨vc,rfl,ho,h2,t2⟩
 obtain ⟨ac,cc,hvv⟩:=own_shape ho
 subst hvv
 go_wp2_with fail
 refine (H3.out w2 h2).mono ?_
 rintro e w3 ⟨rfl,h3,t3⟩
 go_wp2_with fail
 refine (H4.out w3 h3).mono ?_
 rintro e w4 ⟨rfl,h4,t4⟩
 have T14 : Hid (Tr (One g) W w4):=((t1.trans t2).trans t3).trans t4
 have T04 : Hid (Tr (One g) w w4):=(below_tr HB.out _).trans T14.out
 have hs1:=HB.out.size
 have hs2:=t1.size
 have HR4 : Hid (w4.heap[w.heap.size]? = some (.cells mtZ 111 (0,0))):=T14.out.heap HR.out (fun hh=>by have : w.heap.size = g:=hh;omega)
 have HO4 : Hid (w4.ownsRow w.heap.size 183 2 (.slice ac C.1.length cc) C.1.length (cellsE C.1)):=by
  have hlt:=ho.lt
  refine own_base (own_tr ho (t3.trans t4) (fun k hk hz=>?_)) (Nat.le_trans hs1 hs2)
  have h5:=(hlt k hk).1
  have h6 : k = g:=hz
  omega
 obtain ⟨kk,hkk⟩ : ∃ s,ba K.1 = s:=⟨_,rfl⟩
 obtain ⟨vv,hvv⟩ : ∃ s,ba V.1 = s:=⟨_,rfl⟩
 have HKV : Hid (ba K.1 = kk/\ba V.1 = vv):=⟨hkk,hvv⟩
 rw [hkk,hvv]
 clear hkk hvv t1 t2 t3 t4 h1 h2 h3 ho hs1 hs2
 go_wp2_with (first
  | (refine wpList_store_row rfl 111 _ _ rfl w.heap.size #[.bool gone,.int .i64 D.1.1,.int .i64 D.1.2,.string kk,.slice ac C.1.length cc,.string vv] rfl rfl 111 mtZ HR4.out infoMt rfl (one_mt _ _ _ _ _ _ _ _) ?_))
 refine bodyPost_ret (result_mut _ _ w.heap.size #[.bool gone,.int .i64 D.1.1,.int .i64 D.1.2,.string kk,.slice ac C.1.length cc,.string vv] rfl rfl (setRow_heap _ _ _ _ _ _ HR4.out)) rfl ⟨_,by show _ = Ending.returned (.agg #[_,_,_,.string (ba K.1),_,.string (ba V.1)]);rw [HKV.out.1,HKV.out.2],own_setRow HO4.out HR4.out (by decide),?_,T04.out.setNew (Nat.le_refl _) _⟩
 have:=h4
 unfold RdrAt at this ⊢
 rw [setRow_other _ _ _ _ (by omega)]
 exact this
end Go.Proofs.YtilkdeghknjjhaaGreatDoor
namespace Go.Proofs.YtilkdeghknjjhaaGreatDoor
open Go.RowKit M
def byte1 (n : Nat) : ByteArray:=strOfNums [(n : Int)]
theorem conv_one (n : Int) (w : World) : (convert 126 9 (.slice (some ⟨w.heap.size,0,none⟩) 1 1)).run Tryz.prog (w.alloc (.cells #[.int .u8 n] 5)) = .ok (.string (strOfNums [n])) (w.alloc (.cells #[.int .u8 n] 5)) :=
 conv_own (World.ownsRow_lit w #[.int .u8 n] 1 (Nat.le_refl _) (by decide) rfl)
theorem sz1 (n : Int) : (strOfNums [n]).size = 1:=rfl
theorem conv_row (n : Int) (w : World) (g : Nat) (h : w.heap[g]? = some (.cells #[.int .u8 n] 5 (0,0))) : (convert 126 9 (.slice (some ⟨g,0,none⟩) 1 1)).run Tryz.prog w = .ok (.string (strOfNums [n])) w :=
 conv_own (B:=0) (w:=w) (n:=1) (l:=[n]) ⟨rfl,.inr ⟨g,1,_,rfl,Nat.zero_le _,h,Nat.le_refl _,by decide,rfl,rfl⟩⟩
theorem conv_drew (n : Int) (w : World) : (convert 126 9 (.slice (some ⟨w.heap.size,0,none⟩) 1 1)).run Tryz.prog (w.alloc (.cells #[.int .u8 n] 5)).drew = .ok (.string (strOfNums [n])) (w.alloc (.cells #[.int .u8 n] 5)).drew :=
 conv_row n _ _ (heap_alloc_new w _)
def szT (t : ByteArray) : ByteArray:=byte1 t.size ++ t
theorem sized_any (t : ByteArray) (w : World) (ht : t.size<=255) :
  Calls Tryz.prog 178 #[.string t] w fun e w'=>e = .returned (.string (szT t))/\Below w.heap.size w w':=by
 have hc:=conv_one (t.size : Int) w
 have n0 : (0 : Int)<=(t.size : Int):=by omega
 have n1 : (t.size : Int)<=255:=by omega
 have hadd : ¬ 9223372036854775807 < (strOfNums [(t.size : Int)]).size + t.size:=by rw [sz1];omega
 clear ht
 go_enter Tryz.func178,Tryz.ntmps178
 go_wp2
 go_ret
 exact ⟨rfl,(Below.refl _ _).alloc (Nat.le_refl _) _⟩
theorem Encode_f (v : Value) (l : List (Int × Int)) (w : World) (hrd : Rd w v l) :
  Calls Tryz.prog 56 #[v] w fun e w'=>∃ n,e = .returned (.tuple #[.string (encT l),.int .i64 n])/\Below w.heap.size w w':=by
 by_cases hk : Clk l
 ·refine (Encode_yes v l w hrd hk).mono ?_
  rintro e w' ⟨rfl,hb⟩
  exact ⟨0,by unfold encT;rw [if_pos hk],hb⟩
 ·refine (Encode_no v l w hrd hk).mono ?_
  rintro e w' ⟨rfl,hb⟩
  exact ⟨1,by unfold encT;rw [if_neg hk],hb⟩
theorem encodeClock_any (v : Value) (l : List (Int × Int)) (w : World) (hrd : Rd w v l) :
  Calls Tryz.prog 179 #[v] w fun e w'=>e = .returned (.string (encT l))/\Below w.heap.size w w':=by
 have HE:=Encode_f v l w hrd
 obtain ⟨a,cap,rfl,hrest⟩:=hrd
 obtain ⟨x,hx⟩ : ∃ x,encT l = x:=⟨_,rfl⟩
 rw [hx] at HE ⊢
 clear hx hrest
 go_enter Tryz.func179,Tryz.ntmps179
 go_wp2_with fail
 refine HE.mono ?_
 rintro e w1 ⟨n,rfl,hb⟩
 go_wp2
 go_ret
 exact ⟨rfl,hb⟩
theorem encodeDot_any (n k : Int) (w : World) :
  Calls Tryz.prog 180 #[.int .i64 n,.int .i64 k] w fun e w'=>e = .returned (.string (encT [(n,k)]))/\Below w.heap.size w w':=by
 obtain ⟨W,hW,HC,HB⟩ : ∃ W,(w.alloc (.cells #[.int .i64 n,.int .i64 k] 183)) = W/\Hid (Calls Tryz.prog 179 #[.slice (some ⟨w.heap.size,0,none⟩) 1 1] W fun e w'=>e = .returned (.string (encT [(n,k)]))/\Below W.heap.size W w')/\Hid (Below w.heap.size w W) :=
  ⟨_,rfl,encodeClock_any _ _ _ (Rd.own (B:=w.heap.size) (World.ownsRow_lit w #[.int .i64 n,.int .i64 k] 1 (Nat.le_refl _) (by decide) rfl) rfl),(Below.refl _ _).alloc (Nat.le_refl _) _⟩
 obtain ⟨x,hx⟩ : ∃ x,encT [(n,k)] = x:=⟨_,rfl⟩
 rw [hx] at HC ⊢
 clear hx
 go_enter Tryz.func180,Tryz.ntmps180
 go_wp2_with fail
 clear hW
 refine HC.out.mono ?_
 rintro e w1 ⟨rfl,hb⟩
 go_wp2
 go_ret
 exact ⟨rfl,HB.out.trans (hb.mono HB.out.size)⟩
def mtV (m : Mt) (vc : Value) : Value:=.agg #[.bool m.del,.int .i64 m.node,.int .i64 m.count,.string m.k,vc,.string m.v]
noncomputable def encM (m : Mt) : ByteArray:=byte1 (if m.del = true then 2 else 1) ++ encT [(m.node,m.count)] ++ encT m.c ++ szT m.k ++ szT m.v
theorem encT_size (c : List (Int × Int)) : (encT c).size<=73:=by
 unfold encT
 split
 ·rename_i h
  rw [str_size h]
  have:=h.1
  omega
 ·decide
theorem encode_any (m : Mt) (vc : Value) (w : World) (hrd : Rd w vc m.c) (hk : m.k.size<=255) (hv : m.v.size<=255) :
  Calls Tryz.prog 205 #[mtV m vc] w fun e w'=>e = .returned (.string (encM m))/\Below w.heap.size w w':=by
 obtain ⟨del,node,count,k,c,v⟩:=m
 simp only at hrd hk hv
 obtain ⟨D,hD⟩ : ∃ D,encT [(node,count)] = D:=⟨_,rfl⟩
 obtain ⟨C,hC⟩ : ∃ C,encT c = C:=⟨_,rfl⟩
 obtain ⟨K,hK⟩ : ∃ K,szT k = K:=⟨_,rfl⟩
 obtain ⟨V,hV⟩ : ∃ V,szT v = V:=⟨_,rfl⟩
 have HM : Hid (encM ⟨del,node,count,k,c,v⟩ = byte1 (if del = true then 2 else 1) ++ D ++ C ++ K ++ V):=by show _ = _;unfold encM;simp only [hD,hC,hK,hV]
 have H1 : Hid (∀ w1,Calls Tryz.prog 180 #[.int .i64 node,.int .i64 count] w1 fun e w'=>e = .returned (.string D)/\Below w1.heap.size w1 w'):=fun w1=>by rw [<- hD];exact encodeDot_any _ _ _
 have H2 : Hid (∀ w1,Below w.heap.size w w1->Calls Tryz.prog 179 #[vc] w1 fun e w'=>e = .returned (.string C)/\Below w1.heap.size w1 w'):=fun w1 h1=>by rw [<- hC];exact encodeClock_any _ _ _ (hrd.below h1)
 have H3 : Hid (∀ w1,Calls Tryz.prog 178 #[.string k] w1 fun e w'=>e = .returned (.string K)/\Below w1.heap.size w1 w'):=fun w1=>by rw [<- hK];exact sized_any _ _ hk
 have H4 : Hid (∀ w1,Calls Tryz.prog 178 #[.string v] w1 fun e w'=>e = .returned (.string V)/\Below w1.heap.size w1 w'):=fun w1=>by rw [<- hV];exact sized_any _ _ hv
 have s1 : D.size<=73:=by rw [<- hD];exact encT_size _
 have s2 : C.size<=73:=by rw [<- hC];exact encT_size _
 have s3 : K.size<=256:=by rw [<- hK];unfold szT;rw [ByteArray.size_append];unfold byte1;rw [sz1];omega
 have s4 : V.size<=256:=by rw [<- hV];unfold szT;rw [ByteArray.size_append];unfold byte1;rw [sz1];omega
 obtain ⟨av,lv,cv,rfl⟩ : ∃ a l cap,vc = .slice a l cap:=by obtain ⟨a,cap,h,_⟩:=hrd;exact ⟨_,_,_,h⟩
 clear hD hC hK hV hrd hk hv
 unfold mtV
 simp only
 go_enter Tryz.func205,Tryz.ntmps205
 go_upto_region 1 with (fail)
 obtain ⟨W,hW,c0,c1,c2,c3,c4,c5,HB⟩ : ∃ W,(w.alloc (.cells #[.bool del,.int .i64 node,.int .i64 count,.string k,.slice av lv cv,.string v] 111)) = W/\W.cell? ⟨w.heap.size,0,none⟩ = some (.bool del)/\W.cell? ⟨w.heap.size,1,none⟩ = some (.int .i64 node)/\W.cell? ⟨w.heap.size,2,none⟩ = some (.int .i64 count) /\
   W.cell? ⟨w.heap.size,3,none⟩ = some (.string k)/\W.cell? ⟨w.heap.size,4,none⟩ = some (.slice av lv cv)/\W.cell? ⟨w.heap.size,5,none⟩ = some (.string v)/\Below w.heap.size w W :=
  ⟨_,rfl,by simp [go_sem],by simp [go_sem],by simp [go_sem],by simp [go_sem],by simp [go_sem],by simp [go_sem],(Below.refl _ _).alloc (Nat.le_refl _) _⟩
 rw [hW]
 clear hW
 go_upto_if 5 with (fail)
 go_cut [3] from 6 to 6 (fun b wx=>b = .int .u8 (if del = true then 2 else 1)/\wx = W)
 case first =>
  cases del
  ·go_wp2_with fail
   go_meet
   exact ⟨by simp,rfl⟩
  ·go_wp2_with fail
   go_meet
   exact ⟨by simp,rfl⟩
 case rest =>
  obtain ⟨rfl,hwc⟩:=hcut
  subst hwc
  obtain ⟨mk,hmk⟩ : ∃ mk : Int,(if del = true then 2 else 1) = mk:=⟨_,rfl⟩
  have HM2 : Hid (encM ⟨del,node,count,k,c,v⟩ = strOfNums [mk] ++ D ++ C ++ K ++ V):=by
   show _ = _
   rw [HM.out,<- hmk]
   cases del <;> rfl
  rw [hmk]
  have hcv:=conv_row mk
  have hcn:=conv_one mk
  have hcd:=conv_drew mk
  have hb0 : Below wc.heap.size wc wc:=Below.refl _ _
  obtain ⟨bm,hbm⟩ : ∃ bm,strOfNums [mk] = bm:=⟨_,rfl⟩
  have sb : bm.size = 1:=by rw [<- hbm];rfl
  have a1 : ¬ 9223372036854775807 < bm.size + D.size:=by omega
  have a2 : ¬ 9223372036854775807 < bm.size + D.size + C.size:=by omega
  have a3 : ¬ 9223372036854775807 < bm.size + D.size + C.size + K.size:=by omega
  have a4 : ¬ 9223372036854775807 < bm.size + D.size + C.size + K.size + V.size:=by omega
  rw [hbm] at hcv hcn hcd HM2
  clear hbm sb s1 s2 s3 s4
  clear hmk c0
  go_upto_region 4 with (fail)
  refine wp_region_flow 27 [7] (fun u=>#[.agg #[.bool del,.int .i64 node,.int .i64 count,.string k,.slice av lv cv,.string v],.pointer (some ⟨w.heap.size,0,none⟩),.string (bm ++ D ++ C ++ K ++ V),.int .u8 mk,.pointer (some ⟨w.heap.size,0,none⟩),.bool del,.int .u8 mk,u 7,.string bm,
   .pointer (some ⟨w.heap.size,1,none⟩),.int .i64 node,.pointer (some ⟨w.heap.size,2,none⟩),.int .i64 count,.string D,.string (bm ++ D),.pointer (some ⟨w.heap.size,4,none⟩),.slice av lv cv,.string C,.string (bm ++ D ++ C),
   .pointer (some ⟨w.heap.size,3,none⟩),.string k,.string K,.string (bm ++ D ++ C ++ K),.pointer (some ⟨w.heap.size,5,none⟩),.string v,.string V,.string (bm ++ D ++ C ++ K ++ V)])
   (fun _ X=>Below wc.heap.size wc X) (fun X Y=>Below X.heap.size X Y) (fun _ v X=>∃ g,v = .slice (some ⟨g,0,none⟩) 1 1/\X.heap[g]? = some (.cells #[.int .u8 mk] 5 (0,0)))
   (by kernel_rfl) (by kernel_rfl) (fun u=>rfl) ?_ ?_ ?_ rfl ?_ ?_ (Below.drew (Below.refl _ _)) (eachOp_at ?_) ?_
  ·intro u q hq;simp at hq;subst hq;rfl
  ·exact flow_loose (fun u=>rfl)
  ·intro q hq;simp at hq;subst hq;decide
  ·intro u;exact flow_keep [0,1,3,4,5] (by kernel_rfl) rfl rfl (by intro k hk;simp at hk;rcases hk with rfl | rfl | rfl | rfl | rfl <;> rfl)
  ·rintro q z X Y hXY ⟨g,rfl,hg⟩;exact ⟨g,rfl,heap_later hXY hg⟩
  ·simp only [eachOp]
   refine ⟨?_,?_,?_,?_,?_,?_,?_,?_,?_,?_,?_,?_,?_,?_,?_,?_,?_,?_,?_,?_,?_,?_,trivial⟩
   all_goals
    intro L u X hL hup hcl hX hr
    refine wantedI rfl ?_
    clear hup hcl hL
    have f1:=cell_later hX c1
    have f2:=cell_later hX c2
    have f3:=cell_later hX c3
    have f4:=cell_later hX c4
    have f5:=cell_later hX c5
   ·go_simp;exact ⟨hX,Below.refl _ _,rfl⟩
   ·go_simp;exact ⟨belowA hX,belowA (Below.refl _ _),X.heap.size,rfl,heap_alloc_new X _⟩
   ·obtain ⟨g,hu,hg⟩:=hr 7 (by simp) (by decide)
    have hcg:=hcv X g hg
    go_simp
    exact ⟨hX,Below.refl _ _,rfl⟩
   ·go_simp;exact ⟨hX,Below.refl _ _,rfl⟩
   ·go_simp;exact ⟨hX,Below.refl _ _,rfl⟩
   ·go_simp;exact ⟨hX,Below.refl _ _,rfl⟩
   ·go_simp;exact ⟨hX,Below.refl _ _,rfl⟩
   ·go_simp;exact (H1.out X).mono fun e w' ⟨he,hb⟩=>⟨_,he,belowN hX hb,hb,rfl⟩
   ·go_simp;exact ⟨hX,Below.refl _ _,rfl⟩
   ·go_simp;exact ⟨hX,Below.refl _ _,rfl⟩
   ·go_simp;exact ⟨hX,Below.refl _ _,rfl⟩
   ·go_simp;exact (H2.out X (belowN HB hX)).mono fun e w' ⟨he,hb⟩=>⟨_,he,belowN hX hb,hb,rfl⟩
   ·go_simp;exact ⟨hX,Below.refl _ _,rfl⟩
   ·go_simp;exact ⟨hX,Below.refl _ _,rfl⟩
   ·go_simp;exact ⟨hX,Below.refl _ _,rfl⟩
   ·go_simp;exact (H3.out X).mono fun e w' ⟨he,hb⟩=>⟨_,he,belowN hX hb,hb,rfl⟩
   ·go_simp;exact ⟨hX,Below.refl _ _,rfl⟩
   ·go_simp;exact ⟨hX,Below.refl _ _,rfl⟩
   ·go_simp;exact ⟨hX,Below.refl _ _,rfl⟩
   ·go_simp;exact (H4.out X).mono fun e w' ⟨he,hb⟩=>⟨_,he,belowN hX hb,hb,rfl⟩
   ·go_simp;exact ⟨hX,Below.refl _ _,rfl⟩
   ·go_simp;exact ⟨hX,Below.refl _ _,rfl⟩
  ·intro L u X hL hX hr
   go_wp2
   go_ret
   exact ⟨by rw [HM2.out];rfl,belowN HB hX⟩
end Go.Proofs.YtilkdeghknjjhaaGreatDoor
