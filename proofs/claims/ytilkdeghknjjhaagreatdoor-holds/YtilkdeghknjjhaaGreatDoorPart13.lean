/- A part of the proof. -/
import Derived.Test.YtilkdeghknjjhaaGreatDoorPart09
import Derived.Deep.Cut
import Derived.Deep.CutRange
set_option maxRecDepth 20000
set_option maxHeartbeats 3200000
set_option linter.unusedVariables false
namespace Go.Proofs.YtilkdeghknjjhaaGreatDoor
open Go.RowKit
variable {Z : Nat->Prop} {w : World} {p : Nat} {vf vn vs vt : Value}
def Dk.bytesTo (D : Dk) : Nat->Int
 | 0=>0
 | k + 1=>D.bytesTo k + ((fl D.files (nm D.now k).f).d.size : Int)
def Dk.bytes (D : Dk) : Int:=D.bytesTo D.now.length
structure Dk.OK (D : Dk) : Prop where
 fit : D.Fit
 now : ∀ x ∈ D.now,x.f < D.files.length
 safe : ∀ x ∈ D.safe,x.f < D.files.length
 steps : ∀ x ∈ D.steps,x.f < D.files.length
 ln : D.now.length<=1000000000
 lf : D.files.length<=1000000000
 lt : D.steps.length<=1000000000
 ls : D.safe.length<=1000000000
 sz : ∀ x ∈ D.files,x.d.size<=1000000000
 c0 : -9223372036854775808<=D.cap
 c1 : D.cap<=9223372036854775807
 neg : D.cap < 0->∀ x ∈ D.files,x.d.size = 0
theorem Dk.OK.file {D : Dk} (h : D.OK) {k : Nat} (hk : k < D.now.length) : (nm D.now k).f < D.files.length:=by
 rw [nm_get _ _ hk];exact h.now _ (List.getElem_mem _)
theorem Dk.OK.size {D : Dk} (h : D.OK) (k : Nat) : (fl D.files k).d.size<=1000000000:=by
 by_cases hk : k < D.files.length
 ·rw [fl_get _ _ hk];exact h.sz _ (List.getElem_mem _)
 ·have : fl D.files k = Fl.z:=by simp [fl,List.getD,List.getElem?_eq_none (Nat.le_of_not_lt hk)]
  rw [this];simp [Fl.z]
theorem Dk.OK.size0 {D : Dk} (h : D.OK) (hc : D.cap < 0) (k : Nat) : (fl D.files k).d.size = 0:=by
 by_cases hk : k < D.files.length
 ·rw [fl_get _ _ hk];exact h.neg hc _ (List.getElem_mem _)
 ·have : fl D.files k = Fl.z:=by simp [fl,List.getD,List.getElem?_eq_none (Nat.le_of_not_lt hk)]
  rw [this];simp [Fl.z]
theorem Dk.OK.bytesTo {D : Dk} (h : D.OK) : ∀ k,0<=D.bytesTo k/\D.bytesTo k<=1000000000 * k/\(D.cap < 0->D.bytesTo k = 0)
 | 0=>by simp [Dk.bytesTo]
 | k + 1=>by
  have ih:=h.bytesTo k
  have h1:=h.size (nm D.now k).f
  refine ⟨by simp only [Dk.bytesTo];omega,by simp only [Dk.bytesTo];omega,fun hc=>?_⟩
  have:=h.size0 hc (nm D.now k).f
  have:=ih.2.2 hc
  simp only [Dk.bytesTo];omega
theorem Dk.OK.bytes {D : Dk} (h : D.OK) : 0<=D.bytes/\D.bytes<=1000000000000000000/\(D.cap < 0->D.bytes = 0):=by
 have a:=h.bytesTo D.now.length
 have b:=h.ln
 unfold Dk.bytes
 exact ⟨a.1,by omega,a.2.2⟩
theorem Dead_any (Z : Nat->Prop) (p : Nat) (D : Dk) (w : World) (h : DiskAt Z w p D) :
  Calls Tryz.prog 54 #[.pointer (some ⟨p,0,none⟩)] w fun e w'=>e = .returned (.bool (D.life == 0))/\w' = w:=by
 obtain ⟨vf,vn,vs,vt,h⟩:=h
 have c6 : w.cell? ⟨p,6,none⟩ = some (.int .i64 D.life):=(h.cell 6).trans rfl
 clear h
 go_enter Tryz.func54,Tryz.ntmps54
 go_wp2
 go_ret
 exact ⟨rfl,rfl⟩
theorem Failed_any (Z : Nat->Prop) (p : Nat) (D : Dk) (w : World) (h : DiskAt Z w p D) :
  Calls Tryz.prog 103 #[.pointer (some ⟨p,0,none⟩)] w fun e w'=>e = .returned (.int .i64 D.failed)/\w' = w:=by
 obtain ⟨vf,vn,vs,vt,h⟩:=h
 have c7 : w.cell? ⟨p,7,none⟩ = some (.int .i64 D.failed):=(h.cell 7).trans rfl
 clear h
 go_enter Tryz.func103,Tryz.ntmps103
 go_wp2
 go_ret
 exact ⟨rfl,rfl⟩
theorem DiskIn.file {D : Dk} (h : DiskIn Z w p D vf vn vs vt) : ∃ a cap,vf = .slice a D.files.length cap/\(0 < D.files.length->∃ g,a = some ⟨g,0,none⟩/\∀ j,j < D.files.length->w.cell? ⟨g,j * 2,none⟩ = some (.string (fl D.files j).d)/\w.cell? ⟨g,j * 2 + 1,none⟩ = some (.int .i64 (fl D.files j).s)):=by
 obtain ⟨a,cap,hv,h1,h2,h3⟩:=own_cells h.rf
 refine ⟨a,cap,hv,fun h0=>?_⟩
 obtain ⟨g,ha,_,hc⟩:=h3 h0
 exact ⟨g,ha,fun j hj=>⟨hc _ _ (cellsF_at D.files j hj).1,hc _ _ (cellsF_at D.files j hj).2⟩⟩
theorem DiskIn.name {D : Dk} (h : DiskIn Z w p D vf vn vs vt) : ∃ a cap,vn = .slice a D.now.length cap/\(0 < D.now.length->∃ g,a = some ⟨g,0,none⟩/\∀ j,j < D.now.length->w.cell? ⟨g,j * 2,none⟩ = some (.string (nm D.now j).n)/\w.cell? ⟨g,j * 2 + 1,none⟩ = some (.int .i64 (nm D.now j).f)):=by
 obtain ⟨a,cap,hv,h1,h2,h3⟩:=h.rn.cells
 exact ⟨a,cap,hv,h3⟩
theorem Bytes_any (Z : Nat->Prop) (p : Nat) (D : Dk) (w : World) (h : DiskAt Z w p D) (hok : D.OK) :
  Calls Tryz.prog 115 #[.pointer (some ⟨p,0,none⟩)] w fun e w'=>e = .returned (.int .i64 D.bytes)/\Below w.heap.size w w':=by
 obtain ⟨vf,vn,vs,vt,h⟩:=h
 obtain ⟨af,cf,rfl,hF⟩:=h.file
 obtain ⟨an,cn,rfl,hN⟩:=h.name
 have c1 : w.cell? ⟨p,1,none⟩ = some (.slice af D.files.length cf):=(h.cell 1).trans rfl
 have c2 : w.cell? ⟨p,2,none⟩ = some (.slice an D.now.length cn):=(h.cell 2).trans rfl
 have hl1 : (D.now.length : Int)<=1000000000:=by have:=hok.ln;omega
 clear h
 go_enter Tryz.func115,Tryz.ntmps115
 go_wp2_with fail
 go_loopw [3,4] (fun n i wr=>∃ k : Nat,k<=D.now.length/\i = .int .i64 k/\n = .int .i64 (D.bytesTo k)/\Below w.heap.size w wr) (fun _ i _=>D.now.length - (intOf i).toNat)
 case atStart=>exact ⟨0,Nat.zero_le _,rfl,rfl,Below.refl _ _⟩
 case round =>
  obtain ⟨k,hk,rfl,rfl,hb⟩:=hrel
  have d1:=cell_later hb c1
  have d2:=cell_later hb c2
  by_cases hlt : k < D.now.length
  ·have hfk:=hok.file hlt
   obtain ⟨gn,rfl,hn⟩:=hN (by omega)
   obtain ⟨gf,rfl,hf⟩:=hF (by omega)
   have e1:=cell_later hb (hn k hlt).2
   have e2:=cell_later hb (hf _ hfk).1
   have k0 : (0 : Int)<=(k : Int):=by omega
   have k1 : (k : Int) < (D.now.length : Int):=by omega
   have f0 : (0 : Int)<=((nm D.now k).f : Int):=by omega
   have f1 : ((nm D.now k).f : Int) < (D.files.length : Int):=by omega
   have b0:=(hok.bytesTo k).1
   have b1 : D.bytesTo k<=1000000000000000000:=by have:=(hok.bytesTo k).2.1;omega
   have s0 : (0 : Int)<=((fl D.files (nm D.now k).f).d.size : Int):=by omega
   have s1 : ((fl D.files (nm D.now k).f).d.size : Int)<=1000000000:=by have:=hok.size (nm D.now k).f;omega
   clear hN hF hn hf c1 c2
   go_wp2_with fail
   go_quiet (fail)
   go_wp2_with fail
   go_roundw
   case rel=>exact ⟨k + 1,by omega,by go_num,rfl,below_drewN hb _⟩
   case measure=>simp [intOf];omega
  ·have k1 : ¬ (k : Int) < (D.now.length : Int):=by omega
   have hkl : Hid (k = D.now.length):=by show k = _;omega
   clear hN hF c1 c2
   go_wp2
   go_ret
   exact ⟨by unfold Dk.bytes;rw [<- hkl.out];rfl,hb⟩
end Go.Proofs.YtilkdeghknjjhaaGreatDoor
namespace Go.Proofs.YtilkdeghknjjhaaGreatDoor
open Go.RowKit Go.Sort
theorem wrap_in (x : Int) (h1 : -9223372036854775808<=x) (h2 : x<=9223372036854775807) : IntKind.i64.wrap x = x:=by
 rw [IntKind.wrap_i64]
 omega
theorem Left_any (Z : Nat->Prop) (p : Nat) (D : Dk) (w : World) (h : DiskAt Z w p D) (hok : D.OK) :
  Calls Tryz.prog 72 #[.pointer (some ⟨p,0,none⟩)] w fun e w'=>e = .returned (.int .i64 (D.cap - D.bytes))/\Below w.heap.size w w':=by
 have hb:=hok.bytes
 have hc0:=hok.c0
 have hc1:=hok.c1
 have hn:=hb.2.2
 have h0:=hb.1
 have h1:=hb.2.1
 have hlo : -9223372036854775808<=D.cap - D.bytes:=by
  by_cases hc : D.cap < 0
  ·rw [hn hc];omega
  ·omega
 have hhi : D.cap - D.bytes<=9223372036854775807:=by omega
 obtain ⟨vf,vn,vs,vt,h⟩:=h
 have c0 : w.cell? ⟨p,0,none⟩ = some (.int .i64 D.cap):=(h.cell 0).trans rfl
 have HC : Hid (∀ d os,Calls Tryz.prog 115 #[.pointer (some ⟨p,0,none⟩)] (grow (redrawn w d) os) fun e w''=>e = .returned (.int .i64 D.bytes)/\∃ q : Regrown,w'' = grow (redrawn w q.d) q.os) :=
  fun d os=>Calls.regrown_of (Bytes_any Z p D _ ⟨_,_,_,_,h.below (below_regrown w d os)⟩ hok)
 have e0:=cell_regrown c0
 clear h hb hn c0
 go_enter Tryz.func72,Tryz.ntmps72
 go_wp2_with fail
 refine wp_region_quiet_below (by kernel_rfl) (by kernel_rfl) ?_
 repeat (quiet_step (first | (go_at_call 115;exact HC.out _ _)))
 refine wpQuiet_nil ?_
 intro _ hw'
 obtain ⟨⟨dq,osq⟩,hw''⟩:=hw'
 subst hw''
 go_wp2
 go_ret
 exact ⟨congrArg (fun q=>Ending.returned (.int .i64 q)) (wrap_in _ hlo hhi),below_regrown w dq osq⟩
def Dk.at (D : Dk) (n : ByteArray) : Nat:=(nm D.now (fd D.now n)).f
theorem there_lt {l : List Nm} {n : ByteArray} (h : there l n = true) : fd l n < l.length:=by
 unfold there at h
 simp at h
 exact h.1
def Dk.sizeOf (D : Dk) (n : ByteArray) : Nat:=(fl D.files (D.at n)).d.size
def Dk.sizeEnd (D : Dk) (n : ByteArray) : Ending:=.returned (.tuple #[.int .i64 (if there D.now n = true/\D.life ≠ 0 then (D.sizeOf n : Int) else 0),.bool (decide (there D.now n = true/\D.life ≠ 0))])
theorem Size_any (Z : Nat->Prop) (p : Nat) (D : Dk) (n : ByteArray) (w : World) (h : DiskAt Z w p D) (hok : D.OK) :
  Calls Tryz.prog 168 #[.pointer (some ⟨p,0,none⟩),.string n] w fun e w' =>
   e = D.sizeEnd n/\Below w.heap.size w w':=by
 obtain ⟨vf,vn,vs,vt,h⟩:=h
 have hN:=h.rn
 obtain ⟨af,cf,rfl,hF⟩:=h.file
 obtain ⟨an,cn,rfl,hA⟩:=h.name
 have c1 : w.cell? ⟨p,1,none⟩ = some (.slice af D.files.length cf):=(h.cell 1).trans rfl
 have c2 : w.cell? ⟨p,2,none⟩ = some (.slice an D.now.length cn):=(h.cell 2).trans rfl
 have c6 : w.cell? ⟨p,6,none⟩ = some (.int .i64 D.life):=(h.cell 6).trans rfl
 clear h
 go_enter Tryz.func168,Tryz.ntmps168
 go_wp2_with fail
 refine (find_any _ D.now n w hN hok.ln).mono ?_
 rintro e w1 ⟨rfl,hb⟩
 have d1:=cell_later hb c1
 have d2:=cell_later hb c2
 have d6:=cell_later hb c6
 by_cases ht : there D.now n = true
 ·have hlt:=there_lt ht
  have hfk:=hok.file hlt
  by_cases hl : D.life = 0
  ·have hl' : (D.life == 0) = true:=by simp [hl]
   have HE : Hid (D.sizeEnd n = .returned (.tuple #[.int .i64 0,.bool false])):=by show D.sizeEnd n = _;simp [Dk.sizeEnd,hl]
   clear hl hF hA c1 c2 c6
   go_wp2
   go_ret2
   rw [HE.out]
   exact ⟨rfl,hb⟩
  ·have hl' : (D.life == 0) = false:=by simp [hl]
   have HE : Hid (D.sizeEnd n = .returned (.tuple #[.int .i64 (D.sizeOf n),.bool true])):=by show D.sizeEnd n = _;simp [Dk.sizeEnd,hl,ht]
   obtain ⟨gn,rfl,hn⟩:=hA (by omega)
   obtain ⟨gf,rfl,hf⟩:=hF (by omega)
   have e1:=cell_later hb (hn _ hlt).2
   have e2:=cell_later hb (hf _ hfk).1
   have k0 : (0 : Int)<=(fd D.now n : Int):=by omega
   have k1 : (fd D.now n : Int) < (D.now.length : Int):=by omega
   have f0 : (0 : Int)<=((nm D.now (fd D.now n)).f : Int):=by omega
   have f1 : ((nm D.now (fd D.now n)).f : Int) < (D.files.length : Int):=by omega
   clear hl hF hA c1 c2 c6 hn hf
   go_wp2_with fail
   go_quiet (fail)
   go_wp2
   go_ret2
   rw [HE.out]
   exact ⟨rfl,below_drewN hb _⟩
 ·have HE : Hid (D.sizeEnd n = .returned (.tuple #[.int .i64 0,.bool false])):=by show D.sizeEnd n = _;simp [Dk.sizeEnd,ht]
  clear hF hA c1 c2 c6
  go_wp2
  go_ret2
  rw [HE.out]
  exact ⟨rfl,hb⟩
end Go.Proofs.YtilkdeghknjjhaaGreatDoor
namespace Go.Proofs.YtilkdeghknjjhaaGreatDoor
open Go.RowKit
def Dk.reads (D : Dk) (n : ByteArray) (a m : Int) : Prop:=there D.now n = true/\D.life ≠ 0/\0<=a/\0<=m/\a<=D.sizeOf n/\m<=D.sizeOf n - a
def Dk.dataOf (D : Dk) (n : ByteArray) : ByteArray:=(fl D.files (D.at n)).d
def noRead : Ending:=.returned (.tuple #[.string ⟨#[]⟩,.bool false])
def Dk.ReadEnd (D : Dk) (n : ByteArray) (a m : Int) (e : Ending) : Prop :=
 (¬ D.reads n a m/\e = noRead)\/(D.reads n a m/\e = .returned (.tuple #[.string ((D.dataOf n).extract a.toNat (a.toNat + m.toNat)),.bool true]))
theorem Read_any (Z : Nat->Prop) (p : Nat) (D : Dk) (n : ByteArray) (a m : Int) (w : World) (h : DiskAt Z w p D) (hok : D.OK) :
  Calls Tryz.prog 231 #[.pointer (some ⟨p,0,none⟩),.string n,.int .i64 a,.int .i64 m] w fun e w'=>D.ReadEnd n a m e/\Below w.heap.size w w':=by
 obtain ⟨vf,vn,vs,vt,h⟩:=h
 have hN:=h.rn
 obtain ⟨af,cf,rfl,hF⟩:=h.file
 obtain ⟨an,cn,rfl,hA⟩:=h.name
 have c1 : w.cell? ⟨p,1,none⟩ = some (.slice af D.files.length cf):=(h.cell 1).trans rfl
 have c2 : w.cell? ⟨p,2,none⟩ = some (.slice an D.now.length cn):=(h.cell 2).trans rfl
 have c6 : w.cell? ⟨p,6,none⟩ = some (.int .i64 D.life):=(h.cell 6).trans rfl
 clear h
 go_enter Tryz.func231,Tryz.ntmps231
 go_wp2_with fail
 refine (find_any _ D.now n w hN hok.ln).mono ?_
 rintro e w1 ⟨rfl,hb⟩
 have d1:=cell_later hb c1
 have d2:=cell_later hb c2
 have d6:=cell_later hb c6
 by_cases ht : there D.now n = true
 rotate_left
 ·have HE : Hid (¬ D.reads n a m):=fun h=>ht h.1
  clear hF hA c1 c2 c6
  go_wp2
  go_ret2
  exact ⟨.inl ⟨HE.out,rfl⟩,hb⟩
 by_cases hl : D.life = 0
 ·have hl' : (D.life == 0) = true:=by simp [hl]
  have HE : Hid (¬ D.reads n a m):=fun h=>h.2.1 hl
  clear hF hA c1 c2 c6 hl
  go_wp2
  go_ret2
  exact ⟨.inl ⟨HE.out,rfl⟩,hb⟩
 have hl' : (D.life == 0) = false:=by simp [hl]
 by_cases ha : a < 0
 ·have HE : Hid (¬ D.reads n a m):=fun h=>absurd h.2.2.1 (by omega)
  clear hF hA c1 c2 c6 hl
  go_wp2
  go_ret2
  exact ⟨.inl ⟨HE.out,rfl⟩,hb⟩
 by_cases hm : m < 0
 ·have HE : Hid (¬ D.reads n a m):=fun h=>absurd h.2.2.2.1 (by omega)
  clear hF hA c1 c2 c6 hl
  go_wp2
  go_ret2
  exact ⟨.inl ⟨HE.out,rfl⟩,hb⟩
 have hlt:=there_lt ht
 have hfk:=hok.file hlt
 obtain ⟨gn,rfl,hn⟩:=hA (by omega)
 obtain ⟨gf,rfl,hf⟩:=hF (by omega)
 have e1:=cell_later hb (hn _ hlt).2
 have e2:=cell_later hb (hf _ hfk).1
 have hsz:=hok.size (nm D.now (fd D.now n)).f
 have k0 : (0 : Int)<=(fd D.now n : Int):=by omega
 have k1 : (fd D.now n : Int) < (D.now.length : Int):=by omega
 have f0 : (0 : Int)<=((nm D.now (fd D.now n)).f : Int):=by omega
 have f1 : ((nm D.now (fd D.now n)).f : Int) < (D.files.length : Int):=by omega
 obtain ⟨S,hS⟩ : ∃ S,(fl D.files (nm D.now (fd D.now n)).f).d = S:=⟨_,rfl⟩
 have HS : Hid (D.dataOf n = S):=hS
 have HZ : Hid (D.sizeOf n = S.size):=congrArg ByteArray.size hS
 rw [hS] at e2 hsz
 clear hS
 have HR : Hid (a<=S.size->m<=S.size - a->D.reads n a m):=fun h1 h2=>⟨ht,hl,by omega,by omega,by rw [HZ.out];exact h1,by rw [HZ.out];exact h2⟩
 have HN : Hid (¬ (a<=S.size/\m<=S.size - a)->¬ D.reads n a m):=fun h h2=>h (by have:=h2.2.2.2.2;rw [HZ.out] at this;exact this)
 obtain ⟨f,rfl⟩:=Int.eq_ofNat_of_zero_le (Int.not_lt.1 ha)
 obtain ⟨q,rfl⟩:=Int.eq_ofNat_of_zero_le (Int.not_lt.1 hm)
 clear hF hA c1 c2 c6 hl hn hf
 go_upto_region 4 with (fail)
 go_quiet (fail)
 by_cases h1 : (S.size : Int) < (f : Int)
 ·go_wp2
  go_ret2
  exact ⟨.inl ⟨HN.out (fun h=>by omega),rfl⟩,below_drewN hb _⟩
 by_cases h2 : (S.size : Int) - (f : Int) < (q : Int)
 ·go_wp2
  go_ret2
  exact ⟨.inl ⟨HN.out (fun h=>by omega),rfl⟩,below_drewN hb _⟩
 go_wp2
 go_ret2
 exact ⟨.inr ⟨HR.out (by omega) (by omega),by rw [HS.out];rfl⟩,below_drewN hb _⟩
theorem Dk.ReadEnd.whole {D : Dk} {n : ByteArray} {e : Ending} (h : D.ReadEnd n 0 (D.sizeOf n) e) (ht : there D.now n = true) (hl : D.life ≠ 0) : e = .returned (.tuple #[.string (D.dataOf n),.bool true]):=by
 rcases h with ⟨h,_⟩ | ⟨_,h⟩
 ·exact absurd ⟨ht,hl,by omega,by omega,by omega,by omega⟩ h
 ·rw [h]
  have : (D.dataOf n).extract (0 : Int).toNat ((0 : Int).toNat + (D.sizeOf n : Int).toNat) = D.dataOf n:=by
   show (D.dataOf n).extract 0 (0 + D.sizeOf n) = D.dataOf n
   have hz : D.sizeOf n = (D.dataOf n).size:=rfl
   rw [hz,Nat.zero_add]
   exact ByteArray.extract_zero_size
  rw [this]
end Go.Proofs.YtilkdeghknjjhaaGreatDoor
namespace Go.Proofs.YtilkdeghknjjhaaGreatDoor
open Go.RowKit
theorem cells_one_new (w : World) (a : Value) (e : TypeId) : ∀ j u,[a][j]? = some u->(w.alloc (.cells #[a] e)).cell? ((⟨w.heap.size,0,none⟩ : Addr).add j) = some u:=by
 intro j u hu
 rw [Addr.add_lit,cell_of_row _ _ _ _ _ _ (heap_alloc_new w _)]
 simpa using hu
theorem cells_two_new (w : World) (a b : Value) (e : TypeId) : ∀ j u,[a,b][j]? = some u->(w.alloc (.cells #[a,b] e)).cell? ((⟨w.heap.size,0,none⟩ : Addr).add j) = some u:=by
 intro j u hu
 rw [Addr.add_lit,cell_of_row _ _ _ _ _ _ (heap_alloc_new w _)]
 simpa using hu
theorem infoX : (Tryz.prog.info? 9).map (fun i=>(i.zero,i.size,i.bytes)) = some (some (.string ByteArray.empty),1,16):=by kernel_rfl
theorem infoNm : (Tryz.prog.info? 102).map (fun i=>(i.zero,i.size,i.bytes)) = some (some (.agg #[.string ByteArray.empty,.int .i64 0]),2,24):=by kernel_rfl
theorem infoFl : (Tryz.prog.info? 100).map (fun i=>(i.zero,i.size,i.bytes)) = some (some (.agg #[.string ByteArray.empty,.int .i64 0]),2,24):=by kernel_rfl
theorem infoSt : (Tryz.prog.info? 97).map (fun i=>(i.zero,i.size,i.bytes)) = some (some (.agg #[.int .i64 0,.string ByteArray.empty,.string ByteArray.empty,.int .i64 0]),4,48):=by kernel_rfl
def cellsX (l : List ByteArray) : List Value:=l.map Value.string
theorem cellsX_snoc (l : List ByteArray) (x : ByteArray) : cellsX (l ++ [x]) = cellsX l ++ [.string x]:=by simp [cellsX]
def names (l : List Nm) : List ByteArray:=l.map Nm.n
theorem names_snoc (l : List Nm) (k : Nat) (h : k < l.length) : names (l.take (k + 1)) = names (l.take k) ++ [(nm l k).n]:=by
 unfold names
 rw [List.take_succ_eq_append_getElem h,nm_get l k h,List.map_append]
 rfl
theorem names_len (l : List Nm) (k : Nat) : (names (l.take k)).length<=k:=by simp [names];omega
abbrev OwnX (w : World) (B : Nat) (v : Value) (l : List ByteArray) : Prop:=w.ownsRow B 9 1 v l.length (cellsX l)
def Dk.list (D : Dk) : List ByteArray:=if D.life = 0 then [] else names D.now
theorem List_any (Z : Nat->Prop) (p : Nat) (D : Dk) (w : World) (h : DiskAt Z w p D) (hok : D.OK) :
  Calls Tryz.prog 123 #[.pointer (some ⟨p,0,none⟩)] w fun e w'=>∃ v',e = .returned v'/\OwnX w' w.heap.size v' D.list/\Below w.heap.size w w':=by
 obtain ⟨i0,hi,hz0,hz1,hz2⟩:=info_parts infoX
 obtain ⟨vf,vn,vs,vt,h⟩:=h
 obtain ⟨an,cn,rfl,hA⟩:=h.name
 have c2 : w.cell? ⟨p,2,none⟩ = some (.slice an D.now.length cn):=(h.cell 2).trans rfl
 have c6 : w.cell? ⟨p,6,none⟩ = some (.int .i64 D.life):=(h.cell 6).trans rfl
 have hl1 : (D.now.length : Int)<=1000000000:=by have:=hok.ln;omega
 clear h
 by_cases hl : D.life = 0
 ·have hl' : (D.life == 0) = true:=by simp [hl]
  have HL : Hid (D.list = []):=by show D.list = [];simp [Dk.list,hl]
  clear hl hA
  go_enter Tryz.func123,Tryz.ntmps123
  go_wp2
  go_ret
  exact ⟨_,rfl,by rw [HL.out];exact World.ownsRow_nil _ _ _ _,Below.refl _ _⟩
 have hl' : (D.life == 0) = false:=by simp [hl]
 have HL : Hid (D.list = names D.now):=by show D.list = _;simp [Dk.list,hl]
 clear hl
 go_enter Tryz.func123,Tryz.ntmps123
 go_wp2
 go_loopw [3,4] (fun p q wr=>∃ k : Nat,k<=D.now.length/\q = .int .i64 k/\OwnX wr w.heap.size p (names (D.now.take k))/\Below w.heap.size w wr) (fun _ q _=>D.now.length - (intOf q).toNat)
 case atStart=>exact ⟨0,Nat.zero_le _,rfl,World.ownsRow_nil _ _ _ _,Below.refl _ _⟩
 case round =>
  obtain ⟨k,hk,rfl,ho,hb⟩:=hrel
  have hsz:=hb.size
  have d2:=cell_later hb c2
  obtain ⟨a3,cap3,hu3⟩:=own_shape ho
  subst hu3
  by_cases hlt : k < D.now.length
  ·obtain ⟨g,rfl,hr⟩:=hA (by omega)
   have q1 : (k : Int) < (D.now.length : Int):=by omega
   have q0 : (0 : Int)<=(k : Int):=by omega
   have e0:=cell_later hb (hr k hlt).1
   have hlen:=names_len D.now k
   have HS : Hid (names (D.now.take (k + 1)) = names (D.now.take k) ++ [(nm D.now k).n]):=names_snoc D.now k hlt
   obtain ⟨x,hx⟩ : ∃ x,(nm D.now k).n = x:=⟨_,rfl⟩
   rw [hx] at e0 HS
   obtain ⟨U,hU⟩ : ∃ U,names (D.now.take k) = U:=⟨_,rfl⟩
   rw [hU] at ho hlen HS
   obtain ⟨m,hm⟩ : ∃ m,U.length = m:=⟨_,rfl⟩
   rw [hU]
   unfold OwnX at ho
   rw [hm] at ho hlen
   rw [hm]
   clear hA hr hx hU c2 c6
   go_wp2_with (first
    | (at_builtin;refine wpList_append_own _ rfl _ _ 34 rfl w.heap.size 9 i0 (.string ByteArray.empty) 1 16 Tryz.underlying34 hi hz0 hz1 hz2 rfl (by decide) _ _ _ rfl (ho.alloc _) ⟨wr.heap.size,0,none⟩ 1 1 [.string x] rfl rfl (cells_one_new _ _ _) (by simp;rfl) (by unfold maxLen;omega) (by omega) (by simp;omega) ?_))
   intro v' w2 hown' hgrow _
   have hb3 : Below w.heap.size w w2:=(hb.alloc (by omega) _).grown hgrow (by simp;omega) (fun q hq=>(ho.lt q hq).1)
   go_wp2
   go_roundw
   case rel=>exact ⟨k + 1,by omega,by go_num,by unfold OwnX;rw [HS.out,List.length_append,cellsX_snoc,hm];exact hown',hb3⟩
   case measure=>simp [intOf];omega
  ·have he : k = D.now.length:=by omega
   have HE : Hid (names (D.now.take k) = D.list):=by show _ = _;rw [HL.out,he,List.take_length]
   have q1 : ¬ (k : Int) < (D.now.length : Int):=by omega
   clear hA he
   go_wp2
   go_ret
   exact ⟨_,rfl,by rw [<- HE.out];exact ho,hb⟩
end Go.Proofs.YtilkdeghknjjhaaGreatDoor
