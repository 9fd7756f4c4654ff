/- A part of the proof. -/
import Derived.Test.YtilkdeghknjjhaaGreatDoorPart15
set_option maxRecDepth 20000
set_option maxHeartbeats 3200000
set_option linter.unusedVariables false
namespace Go.Proofs.YtilkdeghknjjhaaGreatDoor
open Go.RowKit
variable {w : World} {n g cap p : Nat} {Z : Nat->Prop} {vn vs vt : Value}
theorem Dk.chg_files (D : Dk) : D.chg.files = D.files:=by unfold Dk.chg;split <;> rfl
theorem Dk.chg_now (D : Dk) : D.chg.now = D.now:=by unfold Dk.chg;split <;> rfl
theorem Dk.chg_safe (D : Dk) : D.chg.safe = D.safe:=by unfold Dk.chg;split <;> rfl
theorem Dk.chg_steps (D : Dk) : D.chg.steps = D.steps:=by unfold Dk.chg;split <;> rfl
theorem Dk.chg_cap (D : Dk) : D.chg.cap = D.cap:=by unfold Dk.chg;split <;> rfl
theorem Dk.chg_bytesTo (D : Dk) : ∀ k,D.chg.bytesTo k = D.bytesTo k
 | 0=>rfl
 | k + 1=>by simp only [Dk.bytesTo,D.chg_bytesTo k,D.chg_files,D.chg_now]
theorem Dk.chg_bytes (D : Dk) : D.chg.bytes = D.bytes:=by unfold Dk.bytes;rw [D.chg_bytesTo,D.chg_now]
theorem Dk.chg_fit {D : Dk} (h : D.Fit) (hf : D.failed < 1000000000000000) : D.chg.Fit:=by
 obtain ⟨h1,h2,h3,h4⟩:=h
 unfold Dk.chg
 by_cases hm : D.may = true
 ·rw [if_pos hm]
  exact ⟨by show (if 0 < D.wait then D.wait - 1 else D.wait)<=_;split <;> omega,by show (if 0 < D.life then D.life - 1 else D.life)<=_;split <;> omega,h3,h4⟩
 ·rw [if_neg hm]
  exact ⟨by show (if D.life = 0 then D.wait else -1)<=_;split <;> omega,h2,by show 0<=D.failed + 1;omega,by show D.failed + 1<=_;omega⟩
theorem Dk.OK.of {D E : Dk} (h : D.OK) (h1 : E.files = D.files) (h2 : E.now = D.now) (h3 : E.safe = D.safe) (h4 : E.steps = D.steps) (h5 : E.cap = D.cap) (hf : E.Fit) : E.OK :=
 ⟨hf,by rw [h1,h2];exact h.now,by rw [h1,h3];exact h.safe,by rw [h1,h4];exact h.steps,by rw [h2];exact h.ln,by rw [h1];exact h.lf,by rw [h4];exact h.lt,by rw [h3];exact h.ls,by rw [h1];exact h.sz,by rw [h5];exact h.c0,by rw [h5];exact h.c1,by rw [h5,h1];exact h.neg⟩
theorem Dk.OK.chg {D : Dk} (h : D.OK) (hf : D.failed < 1000000000000000) : D.chg.OK:=h.of D.chg_files D.chg_now D.chg_safe D.chg_steps D.chg_cap (Dk.chg_fit h.fit hf)
theorem own_setOwn {B e size o : Nat} {u : Value} {xs : List Value} (h : w.ownsRow B e size (.slice (some ⟨g,0,none⟩) n cap) n xs) (ho : o < n * size) : (w.setCell ⟨g,o,none⟩ u).ownsRow B e size (.slice (some ⟨g,0,none⟩) n cap) n (xs.set o u):=by
 obtain ⟨h1,h2⟩:=h
 refine ⟨by rw [List.length_set,h1],?_⟩
 rcases h2 with ⟨hv,_⟩ | ⟨g2,cap2,cur,hv,hB,hg,hle,hm,hsz,htk⟩
 ·simp at hv
 ·injection hv with h3 h4 h5
  simp at h3
  subst h3
  subst h5
  refine .inr ⟨g,cap,_,rfl,hB,heap_setCell_self hg o u,hle,hm,by simp [hsz],?_⟩
  rw [<- htk]
  simp [List.take_set]
theorem DiskIn.setFile {o : Nat} {D D' : Dk} {u : Value} (h : DiskIn Z w p D (.slice (some ⟨g,0,none⟩) n cap) vn vs vt) (hn : n = D.files.length) (ho : o < D.files.length * 2)
  (hl : D'.files.length = D.files.length) (hc : cellsF D'.files = (cellsF D.files).set o u) (h2 : D'.now = D.now) (h3 : D'.safe = D.safe) (h4 : D'.steps = D.steps)
  (hr : ∀ a b c d,D'.row a b c d = D.row a b c d) : DiskIn Z (w.setCell ⟨g,o,none⟩ u) p D' (.slice (some ⟨g,0,none⟩) D'.files.length cap) vn vs vt:=by
 subst hn
 have hg : ∃ cur,w.heap[g]? = some (.cells cur 100 (0,0)):=by
  rcases h.rf.2 with ⟨hv,_⟩ | ⟨g2,cap2,cur,hv,_,hg,_⟩
  ·simp at hv
  ·injection hv with h3 h4 h5
   simp at h3
   subst h3
   exact ⟨cur,hg⟩
 obtain ⟨cur,hg⟩:=hg
 have hne : p ≠ g:=fun e=>by subst e;rw [h.hp] at hg;simp at hg
 refine ⟨h.zp,?_,?_,?_,?_,?_,?_,h.zn,h.zs,h.zt⟩
 ·rw [Below.heap_setCell _ _ _ _ hne,h.hp,hl,hr]
 ·rw [hc,hl];exact own_setOwn h.rf ho
 ·have:=own_setCell (o:=o) (u:=u) h.rn hg (by decide);rw [<- h2] at this;exact this
 ·have:=own_setCell (o:=o) (u:=u) h.rs hg (by decide);rw [<- h3] at this;exact this
 ·rw [h4];exact own_setCell h.rt hg (by decide)
 ·rw [hl];exact h.zf
theorem DiskIn.frozenF {D : Dk} (h : DiskIn Z w p D (.slice (some ⟨g,0,none⟩) n cap) vn vs vt) (o : Nat) : w.frozen? ⟨g,o,none⟩ = false:=by
 rcases h.rf.2 with ⟨hv,_⟩ | ⟨g2,cap2,cur,hv,_,hg,_⟩
 ·simp at hv
 ·injection hv with h3 h4 h5
  simp at h3
  subst h3
  exact frozen_of_row _ _ _ _ _ hg
def Dk.syncs (D : Dk) (n : ByteArray) : Bool:=D.may && there D.now n
def Dk.sync (D : Dk) (n : ByteArray) : Dk :=
 if D.syncs n = true then { D.chg with files:=D.files.set (D.at n) { fl D.files (D.at n) with s:=(fl D.files (D.at n)).d.size } } else D.chg
theorem Sync_any (Z : Nat->Prop) (p : Nat) (D : Dk) (n : ByteArray) (w : World) (h : DiskAt Z w p D) (hok : D.OK) :
  Calls Tryz.prog 176 #[.pointer (some ⟨p,0,none⟩),.string n] w fun e w'=>e = .returned (.bool (D.syncs n))/\DiskAt Z w' p (D.sync n)/\Tr Z w w':=by
 go_enter Tryz.func176,Tryz.ntmps176
 go_wp2_with fail
 refine (changes_any Z p D w h hok.fit).mono ?_
 rintro e w1 ⟨rfl,h1,t1⟩
 clear h
 obtain ⟨vf,vn,vs,vt,h1⟩:=h1
 have hN:=h1.rn
 obtain ⟨af,cf,rfl,hF⟩:=h1.file
 obtain ⟨an,cn,rfl,hA⟩:=h1.name
 have c1 : w1.cell? ⟨p,1,none⟩ = some (.slice af D.chg.files.length cf):=(h1.cell 1).trans rfl
 have c2 : w1.cell? ⟨p,2,none⟩ = some (.slice an D.chg.now.length cn):=(h1.cell 2).trans rfl
 have HD : Hid (DiskIn Z w1 p D.chg (.slice af D.chg.files.length cf) (.slice an D.chg.now.length cn) vs vt):=h1
 clear h1
 rw [D.chg_files,D.chg_now] at HD
 rw [D.chg_files] at c1
 rw [D.chg_now] at c2 hN
 rw [D.chg_files] at hF
 rw [D.chg_now] at hA
 go_wp2_with fail
 refine (find_any _ D.now n w1 hN hok.ln).mono ?_
 rintro e w2 ⟨rfl,hb⟩
 have HD2 : Hid (DiskIn Z w2 p D.chg (.slice af D.files.length cf) (.slice an D.now.length cn) vs vt):=HD.out.below hb
 have t2 : Tr Z w w2:=t1.trans (below_tr hb Z)
 have d1:=cell_later hb c1
 have d2:=cell_later hb c2
 by_cases hm : D.may = true
 rotate_left
 ·have hm' : D.may = false:=by simpa using hm
  have HM : Hid (D.syncs n = false/\D.sync n = D.chg):=by
   have : D.syncs n = false:=by simp [Dk.syncs,hm']
   exact ⟨this,by unfold Dk.sync;rw [this];rfl⟩
  rw [hm']
  clear hm hm' hF hA hN hb HD c1 c2
  go_wp2
  go_ret
  exact ⟨by rw [HM.out.1];rfl,by rw [HM.out.2];exact ⟨_,_,_,_,HD2.out⟩,t2⟩
 by_cases ht : there D.now n = true
 rotate_left
 ·have ht' : there D.now n = false:=by simpa using ht
  have HM : Hid (D.syncs n = false/\D.sync n = D.chg):=by
   have : D.syncs n = false:=by simp [Dk.syncs,ht']
   exact ⟨this,by unfold Dk.sync;rw [this];rfl⟩
  rw [ht',hm]
  clear hm ht ht' hF hA hN hb HD c1 c2
  go_wp2
  go_ret
  exact ⟨by rw [HM.out.1];rfl,by rw [HM.out.2];exact ⟨_,_,_,_,HD2.out⟩,t2⟩
 have hlt:=there_lt ht
 have hfk:=hok.file hlt
 obtain ⟨gn,rfl,hn⟩:=hA (by omega)
 obtain ⟨gf,rfl,hf⟩:=hF (by omega)
 have e1:=cell_later hb (hn _ hlt).2
 have e2:=cell_later hb (hf _ hfk).1
 have e3:=cell_later hb (hf _ hfk).2
 have k0 : (0 : Int)<=(fd D.now n : Int):=by omega
 have k1 : (fd D.now n : Int) < (D.now.length : Int):=by omega
 have f0 : (0 : Int)<=((nm D.now (fd D.now n)).f : Int):=by omega
 have f1 : ((nm D.now (fd D.now n)).f : Int) < (D.files.length : Int):=by omega
 have HM : Hid (D.syncs n = true):=by show D.syncs n = true;simp [Dk.syncs,hm,ht]
 have HX : Hid (D.sync n = { D.chg with files:=D.files.set (nm D.now (fd D.now n)).f { fl D.files (nm D.now (fd D.now n)).f with s:=(fl D.files (nm D.now (fd D.now n)).f).d.size } }):=by
  show D.sync n = _
  unfold Dk.sync
  rw [if_pos HM.out]
  rfl
 have HS : Hid (cellsF (D.files.set (nm D.now (fd D.now n)).f { fl D.files (nm D.now (fd D.now n)).f with s:=(fl D.files (nm D.now (fd D.now n)).f).d.size }) = (cellsF D.files).set ((nm D.now (fd D.now n)).f * 2 + 1) (.int .i64 (fl D.files (nm D.now (fd D.now n)).f).d.size)):=by
  show _ = _
  have hq:=(cellsF_at D.files _ hfk).1
  rw [<- cellsF_set _ _ _ hfk]
  congr 1
  obtain ⟨hq1,hq2⟩:=List.getElem?_eq_some_iff.1 hq
  rw [<- hq2]
  exact List.set_getElem_self hq1
 have hfz:=HD2.out.frozenF ((nm D.now (fd D.now n)).f * 2 + 1)
 obtain ⟨j,hj⟩ : ∃ j,(nm D.now (fd D.now n)).f = j:=⟨_,rfl⟩
 rw [hj] at e1 e2 e3 f0 f1 HX HS hfz hfk
 obtain ⟨F,hFl⟩ : ∃ F,fl D.files j = F:=⟨_,rfl⟩
 rw [hFl] at e2 e3 HX HS
 rw [hm,ht]
 have HZ : Hid (Z gf):=HD2.out.zf gf rfl
 clear hm ht hF hA hN hb HD c1 c2 hn hf hj hFl
 go_wp2_with fail
 go_quiet (fail)
 go_wp2
 go_ret
 refine ⟨by rw [HM.out];rfl,?_,(t2.drewN nq).setCell HZ.out _⟩
 rw [HX.out]
 exact ⟨_,_,_,_,DiskIn.setFile (D:=D.chg) (HD2.out.below (below_drewN (Below.refl _ _) nq)) (by rw [D.chg_files]) (by rw [D.chg_files];omega) (by rw [D.chg_files];simp) (by rw [D.chg_files];exact HS.out) rfl rfl rfl (fun _ _ _ _=>rfl)⟩
end Go.Proofs.YtilkdeghknjjhaaGreatDoor
namespace Go.Proofs.YtilkdeghknjjhaaGreatDoor
open Go.RowKit
def Dk.syncDir (D : Dk) : Dk:=if D.may = true then { D.chg with safe:=D.now,steps:=[] } else D.chg
theorem SyncDir_any (Z : Nat->Prop) (p : Nat) (D : Dk) (w : World) (h : DiskAt Z w p D) (hok : D.OK) :
  Calls Tryz.prog 118 #[.pointer (some ⟨p,0,none⟩)] w fun e w'=>e = .returned (.bool D.may)/\DiskAt Z w' p D.syncDir/\Tr Z w w':=by
 go_enter Tryz.func118,Tryz.ntmps118
 go_wp2_with fail
 refine (changes_any Z p D w h hok.fit).mono ?_
 rintro e w1 ⟨rfl,h1,t1⟩
 clear h
 obtain ⟨vf,vn,vs,vt,h1⟩:=h1
 have c2 : w1.cell? ⟨p,2,none⟩ = some vn:=(h1.cell 2).trans rfl
 have c3 : w1.cell? ⟨p,3,none⟩ = some vs:=(h1.cell 3).trans rfl
 have c4 : w1.cell? ⟨p,4,none⟩ = some vt:=(h1.cell 4).trans rfl
 have fz:=h1.frozen
 have HD : Hid (DiskIn Z w1 p D.chg vf vn vs vt):=h1
 obtain ⟨a1,n1,q1,rfl⟩ : ∃ a n q,vn = .slice a n q:=by obtain ⟨a,q,h,_⟩:=own_cells h1.rn;exact ⟨_,_,_,h⟩
 obtain ⟨a2,n2,q2,rfl⟩ : ∃ a n q,vs = .slice a n q:=by obtain ⟨a,q,h,_⟩:=own_cells h1.rs;exact ⟨_,_,_,h⟩
 obtain ⟨a3,n3,q3,rfl⟩ : ∃ a n q,vt = .slice a n q:=by obtain ⟨a,q,h,_⟩:=own_cells h1.rt;exact ⟨_,_,_,h⟩
 clear h1
 by_cases hm : D.may = true
 rotate_left
 ·have hm' : D.may = false:=by simpa using hm
  have HM : Hid (D.may = false/\D.syncDir = D.chg):=⟨hm',by unfold Dk.syncDir;rw [hm'];rfl⟩
  rw [hm']
  clear hm hm'
  go_wp2
  go_ret
  exact ⟨by rw [HM.out.1];rfl,by rw [HM.out.2];exact ⟨_,_,_,_,HD.out⟩,t1⟩
 have HM : Hid (D.may = true/\D.syncDir = { D.chg with safe:=D.now,steps:=[] }):=⟨hm,by unfold Dk.syncDir;rw [if_pos hm]⟩
 rw [hm]
 clear hm
 go_wp2
 go_ret
 refine ⟨by rw [HM.out.1];rfl,?_,(t1.setCell HD.out.zp _).setCell HD.out.zp _⟩
 rw [HM.out.2]
 obtain ⟨zp,hp,rf,rn,rs,rt,zf,zn,zs,zt⟩:=HD.out
 refine ⟨vf,.slice a1 n1 q1,.slice a1 n1 q1,.slice none 0 0,zp,?_,?_,?_,?_,World.ownsRow_nil _ _ _ _,zf,zn,zn,fun k hk=>by simp [Value.ownBlock] at hk⟩
 ·rw [heap_setCell_self (heap_setCell_self hp 3 _) 4 _];rfl
 ·exact own_setCell (own_setCell rf hp (by decide)) (heap_setCell_self hp 3 _) (by decide)
 ·exact own_setCell (own_setCell rn hp (by decide)) (heap_setCell_self hp 3 _) (by decide)
 ·rw [D.chg_now] at rn
  exact own_setCell (own_setCell rn hp (by decide)) (heap_setCell_self hp 3 _) (by decide)
def Dk.appends (D : Dk) (n t : ByteArray) : Bool:=D.may && there D.now n && decide ((t.size : Int)<=D.cap - D.bytes)
def Dk.append (D : Dk) (n t : ByteArray) : Dk :=
 if D.appends n t = true then { D.chg with files:=D.files.set (D.at n) { fl D.files (D.at n) with d:=(fl D.files (D.at n)).d ++ t } } else D.chg
theorem Append_any (Z : Nat->Prop) (p : Nat) (D : Dk) (n t : ByteArray) (w : World) (h : DiskAt Z w p D) (hok : D.OK) (hf : D.failed < 1000000000000000) (hts : t.size<=1000000000) :
  Calls Tryz.prog 194 #[.pointer (some ⟨p,0,none⟩),.string n,.string t] w fun e w'=>e = .returned (.bool (D.appends n t))/\DiskAt Z w' p (D.append n t)/\Tr Z w w':=by
 go_enter Tryz.func194,Tryz.ntmps194
 go_wp2_with fail
 refine (changes_any Z p D w h hok.fit).mono ?_
 rintro e w1 ⟨rfl,h1,t1⟩
 clear h
 obtain ⟨vf,vn,vs,vt,h1⟩:=h1
 have hN:=h1.rn
 obtain ⟨af,cf,rfl,hF⟩:=h1.file
 obtain ⟨an,cn,rfl,hA⟩:=h1.name
 have c2 : w1.cell? ⟨p,2,none⟩ = some (.slice an D.chg.now.length cn):=(h1.cell 2).trans rfl
 have HD : Hid (DiskIn Z w1 p D.chg (.slice af D.chg.files.length cf) (.slice an D.chg.now.length cn) vs vt):=h1
 clear h1
 rw [D.chg_files,D.chg_now] at HD
 rw [D.chg_now] at c2 hN
 rw [D.chg_files] at hF
 rw [D.chg_now] at hA
 go_wp2_with fail
 refine (find_any _ D.now n w1 hN hok.ln).mono ?_
 rintro e w2 ⟨rfl,hb⟩
 have HD2 : Hid (DiskIn Z w2 p D.chg (.slice af D.files.length cf) (.slice an D.now.length cn) vs vt):=HD.out.below hb
 have t2 : Tr Z w w2:=t1.trans (below_tr hb Z)
 by_cases hm : D.may = true
 rotate_left
 ·have hm' : D.may = false:=by simpa using hm
  have HM : Hid (D.appends n t = false/\D.append n t = D.chg):=by
   have : D.appends n t = false:=by simp [Dk.appends,hm']
   exact ⟨this,by unfold Dk.append;rw [this];rfl⟩
  rw [hm']
  clear hm hm' hF hA hN hb HD c2
  go_wp2
  go_ret
  exact ⟨by rw [HM.out.1];rfl,by rw [HM.out.2];exact ⟨_,_,_,_,HD2.out⟩,t2⟩
 by_cases ht : there D.now n = true
 rotate_left
 ·have ht' : there D.now n = false:=by simpa using ht
  have HM : Hid (D.appends n t = false/\D.append n t = D.chg):=by
   have : D.appends n t = false:=by simp [Dk.appends,ht']
   exact ⟨this,by unfold Dk.append;rw [this];rfl⟩
  rw [ht',hm]
  clear hm ht ht' hF hA hN hb HD c2
  go_wp2
  go_ret
  exact ⟨by rw [HM.out.1];rfl,by rw [HM.out.2];exact ⟨_,_,_,_,HD2.out⟩,t2⟩
 have hokc:=hok.chg hf
 have hlt:=there_lt ht
 have hfk:=hok.file hlt
 obtain ⟨gn,rfl,hn⟩:=hA (by omega)
 obtain ⟨gf,rfl,hf⟩:=hF (by omega)
 rw [ht,hm]
 have HMT : Hid (D.may = true/\there D.now n = true):=⟨hm,ht⟩
 have hL : Calls Tryz.prog 72 #[.pointer (some ⟨p,0,none⟩)] w2 fun e w'=>e = .returned (.int .i64 (D.cap - D.bytes))/\Below w2.heap.size w2 w':=by
  have:=Left_any Z p D.chg w2 ⟨_,_,_,_,HD2.out⟩ hokc
  rw [D.chg_cap,D.chg_bytes] at this
  exact this
 have HH : Hid ((w1.cell? ⟨gn,fd D.now n * 2 + 1,none⟩ = some (.int .i64 (nm D.now (fd D.now n)).f))/\w1.cell? ⟨gf,(nm D.now (fd D.now n)).f * 2,none⟩ = some (.string (fl D.files (nm D.now (fd D.now n)).f).d)):=⟨(hn _ hlt).2,(hf _ hfk).1⟩
 clear hm ht hF hA hN HD c2 hn hf
 go_wp2_with fail
 refine hL.mono ?_
 rintro e w3 ⟨rfl,hb3⟩
 clear hL
 have HD3 : Hid (DiskIn Z w3 p D.chg (.slice (some ⟨gf,0,none⟩) D.files.length cf) (.slice (some ⟨gn,0,none⟩) D.now.length cn) vs vt):=HD2.out.below hb3
 have t3 : Tr Z w w3:=t2.trans (below_tr hb3 Z)
 by_cases hroom : (t.size : Int)<=D.cap - D.bytes
 rotate_left
 ·have HM : Hid (D.appends n t = false/\D.append n t = D.chg):=by
   have : D.appends n t = false:=by simp [Dk.appends,hroom]
   exact ⟨this,by unfold Dk.append;rw [this];rfl⟩
  have hr2 : D.cap - D.bytes < (t.size : Int):=by omega
  clear hb hb3 HD2 HH hroom
  go_wp2
  go_ret
  exact ⟨by rw [HM.out.1];rfl,by rw [HM.out.2];exact ⟨_,_,_,_,HD3.out⟩,t3⟩
 have HM : Hid (D.appends n t = true):=by show D.appends n t = true;simp [Dk.appends,HMT.out.1,HMT.out.2,hroom]
 have d1 : w3.cell? ⟨p,1,none⟩ = some (.slice (some ⟨gf,0,none⟩) D.files.length cf):=(HD3.out.cell 1).trans rfl
 have d2 : w3.cell? ⟨p,2,none⟩ = some (.slice (some ⟨gn,0,none⟩) D.now.length cn):=(HD3.out.cell 2).trans rfl
 have e1:=cell_later hb3 (cell_later hb HH.out.1)
 have e2:=cell_later hb3 (cell_later hb HH.out.2)
 have k0 : (0 : Int)<=(fd D.now n : Int):=by omega
 have k1 : (fd D.now n : Int) < (D.now.length : Int):=by omega
 have f0 : (0 : Int)<=((nm D.now (fd D.now n)).f : Int):=by omega
 have f1 : ((nm D.now (fd D.now n)).f : Int) < (D.files.length : Int):=by omega
 have hz:=hok.size (nm D.now (fd D.now n)).f
 have HX : Hid (D.append n t = { D.chg with files:=D.files.set (nm D.now (fd D.now n)).f { fl D.files (nm D.now (fd D.now n)).f with d:=(fl D.files (nm D.now (fd D.now n)).f).d ++ t } }):=by
  show D.append n t = _
  unfold Dk.append
  rw [if_pos HM.out]
  rfl
 have HS : Hid (cellsF (D.files.set (nm D.now (fd D.now n)).f { fl D.files (nm D.now (fd D.now n)).f with d:=(fl D.files (nm D.now (fd D.now n)).f).d ++ t }) = (cellsF D.files).set ((nm D.now (fd D.now n)).f * 2) (.string ((fl D.files (nm D.now (fd D.now n)).f).d ++ t))):=by
  show _ = _
  have hq:=(cellsF_at D.files _ hfk).2
  rw [<- cellsF_set _ _ _ hfk]
  obtain ⟨hq1,hq2⟩:=List.getElem?_eq_some_iff.1 hq
  show ((cellsF D.files).set _ _).set _ (.int .i64 (fl D.files (nm D.now (fd D.now n)).f).s) = _
  rw [<- hq2]
  rw [List.set_comm _ _ (by omega),List.set_getElem_self hq1]
 have hfz:=HD3.out.frozenF ((nm D.now (fd D.now n)).f * 2)
 obtain ⟨j,hj⟩ : ∃ j,(nm D.now (fd D.now n)).f = j:=⟨_,rfl⟩
 rw [hj] at e1 e2 f0 f1 HX HS hfz hfk hz
 obtain ⟨F,hFl⟩ : ∃ F,fl D.files j = F:=⟨_,rfl⟩
 rw [hFl] at e2 HX HS hz
 have HZ : Hid (Z gf):=HD3.out.zf gf rfl
 have hsum : ¬ 1125899906842624 < F.d.size + t.size:=by omega
 clear hb hb3 HD2 HH hj hFl HMT
 go_upto_region 5 with (fail)
 go_quiet (fail)
 go_wp2
 go_ret
 refine ⟨by rw [HM.out];rfl,?_,(t3.drewN nq).setCell HZ.out _⟩
 rw [HX.out]
 exact ⟨_,_,_,_,DiskIn.setFile (D:=D.chg) (HD3.out.below (below_drewN (Below.refl _ _) nq)) (by rw [D.chg_files]) (by rw [D.chg_files];omega) (by rw [D.chg_files];simp) (by rw [D.chg_files];exact HS.out) rfl rfl rfl (fun _ _ _ _=>rfl)⟩
end Go.Proofs.YtilkdeghknjjhaaGreatDoor
