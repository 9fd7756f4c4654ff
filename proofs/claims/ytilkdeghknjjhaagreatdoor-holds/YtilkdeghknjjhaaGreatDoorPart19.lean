/- A part of the proof. -/
import Derived.Test.YtilkdeghknjjhaaGreatDoorPart17
import Derived.Deep.RegionWith
set_option maxRecDepth 20000
set_option maxHeartbeats 3200000
set_option linter.unusedVariables false
namespace Go.Proofs.YtilkdeghknjjhaaGreatDoor
open Go.RowKit
variable {w w' : World} {B size s p : Nat} {v vf vn vs vt v' : Value} {xs : List Value} {Z : Nat->Prop}
section
variable {P : Program}
theorem step_append_keeps {ops : Array Oper} {o : Oper} {a : Act} {K : Act->World->Prop} {Q : Exit->Act->World->Prop} {E : Prop} (hgd : o.guard = none) (s x : Operand) (t : TypeId)
  (ho : o.op = .call { callee:=.builtin .append,args:=#[s,x],argTypes:=#[t,t] })
  (base : Nat) (e : TypeId) (i : TypeInfo) (z : Value) (size bytes : Nat) (ht : P.underlying t = some (.slice e)) (hi : P.info? e = some i) (hz : i.zero = some z)
  (hsize : i.size = size) (hby : i.bytes = bytes) (hzs : z.cells.size = size) (hsz : 0 < size)
  (v : Value) (n : Nat) (xs : List Value) (hs : a.eval s = v) (hown : w.ownsRow base e size v n xs)
  (ad : Addr) (m c : Nat) (news : List Value) (hx : a.eval x = .slice (some ad) m c) (hl : news.length = m * size) (hm1 : 0 < m) (hnews : ∀ j u,news[j]? = some u->w.cell? (ad.add j) = some u) (h1 : ∀ u ∈ news,u.oneCell' = true)
  (h63 : n + m<=100000000000) (hbytes : (n + m) * bytes<=140737488355328) (hbase : base<=w.heap.size)
  (h : ∀ v' w',w'.ownsRow base e size v' (n + m) (xs ++ news)->w'.ownsRow base e size v n xs->w.grownBy w' v.ownBlock->(v'.ownBlock = v.ownBlock\/∀ k,v'.ownBlock = some k->w.heap.size<=k)->K (a.put o.dst v') w') :
  if Region.wanted o (yielded ops a.tmps) = true then Oper.wp P o a w K Q else E:=by
 have hw : Region.wanted o (yielded ops a.tmps) = true:=by simp [Region.wanted,hgd]
 rw [if_pos hw]
 obtain ⟨v',w',hrun,r1,r2,r3,r4⟩:=append_keeps (P:=P) w base t o.type e i z size bytes ht hi hz hsize hby hzs hsz v n xs hown ad m c news hl hm1 hnews h1 h63 hbytes hbase
 unfold Oper.wp
 simp [execOp,ho,resolve,invoke,builtin,hs,hx,hrun,Result.andThen]
 exact h v' w' r1 r2 r3 r4
end
theorem own_grown {r : Option Nat} {n : Nat} {e : TypeId} (h : w.ownsRow B e size v n xs) (hg : w.grownBy w' r) (hne : v.ownBlock = none\/v.ownBlock ≠ r) : w'.ownsRow B e size v n xs:=by
 refine ⟨h.1,?_⟩
 rcases h.2 with hn | ⟨g,cap,cur,rfl,hb,hgg,rest⟩
 ·exact .inl hn
 ·refine .inr ⟨g,cap,cur,rfl,hb,?_,rest⟩
  rw [hg.block g (Array.getElem?_eq_some_iff.1 hgg).1 ?_]
  ·exact hgg
  ·rcases hne with h1 | h1
   ·simp [Value.ownBlock] at h1
   ·simpa [Value.ownBlock] using h1
theorem own_apart' {C n m : Nat} {e f : TypeId} {t : Nat} {u : Value} {ys : List Value} (h : w.ownsRow B e s v n xs) (k : w.ownsRow C f t u m ys) (hne : e ≠ f) : v.ownBlock = none\/v.ownBlock ≠ u.ownBlock:=by
 rcases h.2 with ⟨rfl,_⟩ | ⟨g,cap,cur,rfl,_,hg,_⟩
 ·exact .inl rfl
 ·refine .inr fun e=>?_
  rcases k.2 with ⟨rfl,_⟩ | ⟨g2,cap2,cur2,rfl,_,hg2,_⟩
  ·simp [Value.ownBlock] at e
  ·simp [Value.ownBlock] at e
   subst e
   rw [hg] at hg2
   simp at hg2
   exact hne hg2.2
theorem own_not {n k : Nat} {e t : TypeId} {cs : Array Value} (h : w.ownsRow B e s v n xs) (hk : w.heap[k]? = some (.cells cs t (0,0))) (hne : e ≠ t) : some k ≠ v.ownBlock:=by
 intro e2
 rcases h.2 with ⟨rfl,_⟩ | ⟨g2,cap2,cur2,rfl,_,hg2,_⟩
 ·simp [Value.ownBlock] at e2
 ·simp [Value.ownBlock] at e2
  subst e2
  rw [hk] at hg2
  simp at hg2
  exact hne hg2.2.symm
theorem own_drw {e n : Nat} (h : w.ownsRow B e size v n xs) : w.drew.ownsRow B e size v n xs:=h
theorem cells_four_new (w : World) (a b c d : Value) (e : TypeId) : ∀ j u,[a,b,c,d][j]? = some u->(w.alloc (.cells #[a,b,c,d] e)).cell? ((⟨w.heap.size,0,none⟩ : Addr).add j) = some u:=by
 intro j u hu
 rw [Addr.add_lit,cell_of_row _ _ _ _ _ _ (heap_alloc_new w _)]
 simpa using hu
theorem DiskIn.growF {n : Nat} {D : Dk} {x : Fl} (h : DiskIn Z w p D vf vn vs vt) (hz : ∀ k,w.heap.size<=k->Z k) (hg : w.grownBy w' vf.ownBlock)
  (hown : w'.ownsRow 0 100 2 v' (D.files.length + 1) (cellsF D.files ++ [.string x.d,.int .i64 x.s])) (hv : v'.ownBlock = vf.ownBlock\/∀ k,v'.ownBlock = some k->w.heap.size<=k) :
  DiskIn Z (w'.setCell ⟨p,1,none⟩ v') p { D with files:=D.files ++ [x] } v' vn vs vt:=by
 have hp' : w'.heap[p]? = some (.cells (D.row vf vn vs vt) 94 (0,0)):=by
  rw [hg.block p (Array.getElem?_eq_some_iff.1 h.hp).1 (own_not h.rf h.hp (by decide))]
  exact h.hp
 have hl : (D.files ++ [x]).length = D.files.length + 1:=by simp
 refine ⟨h.zp,?_,?_,?_,?_,?_,?_,h.zn,h.zs,h.zt⟩
 ·rw [heap_setCell_self hp'];rfl
 ·show World.ownsRow _ _ _ _ _ (D.files ++ [x]).length (cellsF (D.files ++ [x]))
  rw [hl,cellsF_snoc]
  exact own_setCell hown hp' (by decide)
 ·exact own_setCell (own_grown h.rn hg (own_apart' h.rn h.rf (by decide))) hp' (by decide)
 ·exact own_setCell (own_grown h.rs hg (own_apart' h.rs h.rf (by decide))) hp' (by decide)
 ·exact own_setCell (own_grown h.rt hg (own_apart' h.rt h.rf (by decide))) hp' (by decide)
 ·intro k hk
  rcases hv with e | e
  ·exact h.zf k (e ▸ hk)
  ·exact hz k (e k hk)
theorem DiskIn.growT {n : Nat} {D : Dk} {x : Stp} (h : DiskIn Z w p D vf vn vs vt) (hz : ∀ k,w.heap.size<=k->Z k) (hg : w.grownBy w' vt.ownBlock)
  (hown : w'.ownsRow 0 97 4 v' (D.steps.length + 1) (cellsT D.steps ++ [.int .i64 x.k,.string x.fr,.string x.to,.int .i64 x.f])) (hv : v'.ownBlock = vt.ownBlock\/∀ k,v'.ownBlock = some k->w.heap.size<=k) :
  DiskIn Z (w'.setCell ⟨p,4,none⟩ v') p { D with steps:=D.steps ++ [x] } vf vn vs v':=by
 have hp' : w'.heap[p]? = some (.cells (D.row vf vn vs vt) 94 (0,0)):=by
  rw [hg.block p (Array.getElem?_eq_some_iff.1 h.hp).1 (own_not h.rt h.hp (by decide))]
  exact h.hp
 have hl : (D.steps ++ [x]).length = D.steps.length + 1:=by simp
 refine ⟨h.zp,?_,?_,?_,?_,?_,h.zf,h.zn,h.zs,?_⟩
 ·rw [heap_setCell_self hp'];rfl
 ·exact own_setCell (own_grown h.rf hg (own_apart' h.rf h.rt (by decide))) hp' (by decide)
 ·exact own_setCell (own_grown h.rn hg (own_apart' h.rn h.rt (by decide))) hp' (by decide)
 ·exact own_setCell (own_grown h.rs hg (own_apart' h.rs h.rt (by decide))) hp' (by decide)
 ·show World.ownsRow _ _ _ _ _ (D.steps ++ [x]).length (cellsT (D.steps ++ [x]))
  rw [hl,cellsT_snoc]
  exact own_setCell hown hp' (by decide)
 ·intro k hk
  rcases hv with e | e
  ·exact h.zt k (e ▸ hk)
  ·exact hz k (e k hk)
theorem DiskIn.pack4 {w0 : World} {D : Dk} {x : Stp} {o ob : Obj} {b : Nat} (h : DiskIn Z w p D vf vn vs vt) (hz : ∀ k,w.heap.size<=k->Z k) (t : Tr Z w0 w) (hb : w.heap[b]? = some ob) (hnb : some b ≠ vt.ownBlock/\b ≠ p) (hg : (w.alloc o).drew.grownBy w' vt.ownBlock)
  (hown : w'.ownsRow 0 97 4 v' (D.steps.length + 1) (cellsT D.steps ++ [.int .i64 x.k,.string x.fr,.string x.to,.int .i64 x.f])) (hv : v'.ownBlock = vt.ownBlock\/∀ k,v'.ownBlock = some k->(w.alloc o).drew.heap.size<=k) :
  w'.cell? ⟨p,4,none⟩ = some vt/\(∀ j,w'.frozen? ⟨p,j,none⟩ = false)/\Hid (DiskIn Z (w'.setCell ⟨p,4,none⟩ v') p { D with steps:=D.steps ++ [x] } vf vn vs v')/\Hid (Tr Z w0 (w'.setCell ⟨p,4,none⟩ v'))/\Hid ((w'.setCell ⟨p,4,none⟩ v').heap[b]? = some ob):=by
 have hDa:=h.below ((Below.refl _ _).alloc (Nat.le_refl _) o)
 have hgr : (w.alloc o).grownBy w' vt.ownBlock:=⟨hg.os,hg.tape,hg.output,hg.size,hg.block⟩
 have hp' : w'.heap[p]? = some (.cells (D.row vf vn vs vt) 94 (0,0)):=by
  rw [hgr.block p (Array.getElem?_eq_some_iff.1 hDa.hp).1 (own_not hDa.rt hDa.hp (by decide))]
  exact hDa.hp
 refine ⟨by rw [cell_of_row _ _ _ _ _ _ hp'];rfl,fun j=>frozen_of_row _ _ _ _ _ hp',?_,?_,?_⟩
 ·exact DiskIn.growT (n:=0) hDa (fun k hk=>hz k (by simp at hk;omega)) hgr hown hv
 ·exact ((t.alloc _).grown hgr (fun k hk _=>hDa.zt k hk)).setCell h.zp _
 ·show _ = _
  rw [Below.heap_setCell _ _ _ _ hnb.2]
  have hba:=heap_later ((Below.refl w.heap.size w).alloc (Nat.le_refl _) o) hb
  rw [hgr.block b (Array.getElem?_eq_some_iff.1 hba).1 hnb.1]
  exact hba
theorem DiskIn.setN {D : Dk} {l : List Nm} (h : DiskIn Z w p D vf vn vs vt) (hn : RdN w v' l) (hz : InZ Z v') : DiskIn Z (w.setCell ⟨p,2,none⟩ v') p { D with now:=l } vf v' vs vt :=
 ⟨h.zp,by rw [heap_setCell_self h.hp];rfl,own_setCell h.rf h.hp (by decide),own_setCell hn h.hp (by decide),own_setCell h.rs h.hp (by decide),own_setCell h.rt h.hp (by decide),h.zf,hz,h.zs,h.zt⟩
def Dk.step1 (D : Dk) (n : ByteArray) : Stp:=⟨1,ByteArray.empty,n,D.files.length⟩
def Dk.creates (D : Dk) (n : ByteArray) : Bool:=D.may && !there D.now n && !(n.toList == [])
def Dk.create (D : Dk) (n : ByteArray) : Dk :=
 if D.creates n = true then { D.chg with files:=D.files ++ [Fl.z],steps:=D.steps ++ [D.step1 n],now:=doS D.now (D.step1 n) } else D.chg
theorem Create_any (Z : Nat->Prop) (p : Nat) (D : Dk) (n : ByteArray) (w : World) (h : DiskAt Z w p D) (hok : D.OK) (hz : Opn Z w) (hlf : D.files.length < 1000000000) (hlt : D.steps.length < 1000000000) :
  Calls Tryz.prog 193 #[.pointer (some ⟨p,0,none⟩),.string n] w fun e w'=>e = .returned (.bool (D.creates n))/\DiskAt Z w' p (D.create n)/\Tr Z w w':=by
 obtain ⟨i0,hi,hz0,hz1,hz2⟩:=info_parts infoFl
 obtain ⟨j0,hj,hj0,hj1,hj2⟩:=info_parts infoSt
 go_enter Tryz.func193,Tryz.ntmps193
 go_wp2_with fail
 refine (changes_any Z p D w h hok.fit).mono ?_
 rintro e w1 ⟨rfl,h1,t1⟩
 clear h
 obtain ⟨vf,vn,vs,vt,h1⟩:=h1
 have hN:=h1.rn
 obtain ⟨an,cn,rfl,_⟩:=h1.name
 have c2 : w1.cell? ⟨p,2,none⟩ = some (.slice an D.chg.now.length cn):=(h1.cell 2).trans rfl
 have HD : Hid (DiskIn Z w1 p D.chg vf (.slice an D.chg.now.length cn) vs vt):=h1
 clear h1
 rw [D.chg_now] at c2 hN
 go_wp2_with fail
 refine (find_any _ D.now n w1 hN hok.ln).mono ?_
 rintro e w2 ⟨rfl,hb⟩
 have HD2 : Hid (DiskIn Z w2 p D.chg vf (.slice an D.chg.now.length cn) vs vt):=HD.out.below hb
 have t2 : Tr Z w w2:=t1.trans (below_tr hb Z)
 have hno : ∀ (b : D.creates n = false),D.create n = D.chg:=fun b=>by unfold Dk.create;rw [b];rfl
 by_cases hm : D.may = true
 rotate_left
 ·have hm' : D.may = false:=by simpa using hm
  have HM : Hid (D.creates n = false/\D.create n = D.chg):=by
   have : D.creates n = false:=by simp [Dk.creates,hm']
   exact ⟨this,hno this⟩
  rw [hm']
  clear hm hm' hno hN hb HD c2
  go_wp2
  go_ret
  exact ⟨by rw [HM.out.1];rfl,by rw [HM.out.2];exact ⟨_,_,_,_,HD2.out⟩,t2⟩
 by_cases ht : there D.now n = true
 ·have HM : Hid (D.creates n = false/\D.create n = D.chg):=by
   have : D.creates n = false:=by simp [Dk.creates,ht]
   exact ⟨this,hno this⟩
  rw [ht,hm]
  clear hm ht hno hN hb HD c2
  go_wp2
  go_ret
  exact ⟨by rw [HM.out.1];rfl,by rw [HM.out.2];exact ⟨_,_,_,_,HD2.out⟩,t2⟩
 have ht' : there D.now n = false:=by simpa using ht
 by_cases he : (n.toList == []) = true
 ·have HM : Hid (D.creates n = false/\D.create n = D.chg):=by
   have : D.creates n = false:=by simp [Dk.creates,he]
   exact ⟨this,hno this⟩
  rw [ht',hm]
  clear hm ht hno hN hb HD c2
  go_wp2
  go_ret
  exact ⟨by rw [HM.out.1];rfl,by rw [HM.out.2];exact ⟨_,_,_,_,HD2.out⟩,t2⟩
 have he' : (n.toList == []) = false:=by simpa using he
 have HM : Hid (D.creates n = true):=by show D.creates n = true;simp [Dk.creates,hm,ht',he']
 have HX : Hid (D.create n = { D.chg with files:=D.files ++ [Fl.z],steps:=D.steps ++ [D.step1 n],now:=doS D.now (D.step1 n) }):=by
  show D.create n = _
  unfold Dk.create
  rw [if_pos HM.out]
 obtain ⟨af,qf,hvf,_,_,_⟩:=own_cells HD2.out.rf
 obtain ⟨at_,qt,hvt,_,_,_⟩:=own_cells HD2.out.rt
 subst hvf
 subst hvt
 rw [D.chg_files,D.chg_now,D.chg_steps] at HD2
 have c1 : w2.cell? ⟨p,1,none⟩ = some (.slice af D.files.length qf):=(HD2.out.cell 1).trans rfl
 have fz2:=HD2.out.frozen
 have HZ2 : Hid (Opn Z w2):=hz.tr t2
 have HZ0 : Hid (Opn Z w):=hz
 have HT2 : Hid (Tr Z w w2):=t2
 have hrf:=HD2.out.rf
 rw [D.chg_files] at hrf
 have hln:=hok.ln
 rw [ht',hm]
 clear hm ht hno hN hb HD c2 t1 t2 hz he
 go_wp2_with (first
  | (at_builtin;refine wpList_append_keeps rfl _ _ 90 rfl 0 100 i0 (.agg #[.string ByteArray.empty,.int .i64 0]) 2 24 Tryz.underlying90 hi hz0 hz1 hz2 rfl (by decide) _ _ _ rfl (hrf.alloc _) ⟨_,0,none⟩ 1 1 [.string ByteArray.empty,.int .i64 0] rfl rfl (by decide) (cells_two_new _ _ _ _) (one_cellsF [Fl.z]) (by omega) (by omega) (by omega) ?_))
 intro v3 w3 hown _ hgrow hv3
 have hDa:=HD2.out.below ((Below.refl _ _).alloc (Nat.le_refl _) (.cells #[.string { data:=#[] },.int .i64 0] 100))
 have hp3 : w3.heap[p]? = some (.cells (D.chg.row (.slice af D.files.length qf) (.slice an D.now.length cn) vs (.slice at_ D.steps.length qt)) 94 (0,0)):=by
  rw [hgrow.block p (Array.getElem?_eq_some_iff.1 hDa.hp).1 (own_not hDa.rf hDa.hp (by decide))]
  exact hDa.hp
 have g1 : w3.cell? ⟨p,1,none⟩ = some (.slice af D.files.length qf):=by rw [cell_of_row _ _ _ _ _ _ hp3];rfl
 have fz3 : ∀ o,w3.frozen? ⟨p,o,none⟩ = false:=fun o=>frozen_of_row _ _ _ _ _ hp3
 have hA : DiskIn Z (w3.setCell ⟨p,1,none⟩ v3) p { D.chg with files:=D.files ++ [Fl.z] } v3 (.slice an D.now.length cn) vs (.slice at_ D.steps.length qt):=by
  have:=DiskIn.growF (n:=0) (x:=Fl.z) hDa (fun k hk=>HZ2.out k (by simp at hk;omega)) hgrow (by rw [D.chg_files];exact hown) (by simpa using hv3)
  rw [D.chg_files] at this
  exact this
 have HTA : Hid (Tr Z w (w3.setCell ⟨p,1,none⟩ v3)):=by
  have a1 : Tr Z w w3:=(HT2.out.alloc _).grown hgrow (fun k hk _=>hDa.zf k hk)
  exact a1.setCell hDa.zp _
 obtain ⟨a3,q3,hv3s,_,_,_⟩:=own_cells hown
 subst hv3s
 clear hv3 hgrow hown hrf hDa hp3 HD2 HT2 c1 fz2
 go_upto_region 6 with (fail)
 obtain ⟨WA,hWA,HDA,HTB⟩ : ∃ WA,(w3.setCell ⟨p,1,none⟩ (.slice a3 (D.files.length + 1) q3)) = WA/\Hid (DiskIn Z WA p { D.chg with files:=D.files ++ [Fl.z] } (.slice a3 (D.files.length + 1) q3) (.slice an D.now.length cn) vs (.slice at_ D.steps.length qt))/\Hid (Tr Z w WA) :=
  ⟨_,rfl,hA,HTA⟩
 rw [hWA]
 clear hWA hA HTA g1 fz3
 have c1 : WA.cell? ⟨p,1,none⟩ = some (.slice a3 (D.files.length + 1) q3):=(HDA.out.cell 1).trans rfl
 have c4 : WA.cell? ⟨p,4,none⟩ = some (.slice at_ D.steps.length qt):=(HDA.out.cell 4).trans rfl
 go_upto_region 7 with (fail)
 obtain ⟨WB,hWB,HDB,HTC,HSB⟩ : ∃ WB,(WA.alloc (.cells #[.int .i64 1,.string { data:=#[] },.string n,.int .i64 D.files.length] 97)) = WB/\Hid (DiskIn Z WB p { D.chg with files:=D.files ++ [Fl.z] } (.slice a3 (D.files.length + 1) q3) (.slice an D.now.length cn) vs (.slice at_ D.steps.length qt))/\Hid (Tr Z w WB) /\
   Hid (WB.heap[WA.heap.size]? = some (.cells #[.int .i64 1,.string { data:=#[] },.string n,.int .i64 D.files.length] 97 (0,0))/\∀ k,WB.heap.size<=k->Z k) :=
  ⟨_,rfl,HDA.out.below ((Below.refl _ _).alloc (Nat.le_refl _) _),HTB.out.alloc _,heap_alloc_new WA _,HZ0.out.tr (HTB.out.alloc _)⟩
 rw [hWB]
 have HNB : Hid (some WA.heap.size ≠ (Value.slice at_ D.steps.length qt).ownBlock/\WA.heap.size ≠ p):=by
  refine ⟨fun e=>?_,fun e=>?_⟩
  ·have:=(HDA.out.rt.lt _ e.symm).2
   omega
  ·have:=(Array.getElem?_eq_some_iff.1 HDA.out.hp).1
   omega
 clear hWB HDA HTB c1 c4
 have c4 : WB.cell? ⟨p,4,none⟩ = some (.slice at_ D.steps.length qt):=(HDB.out.cell 4).trans rfl
 have t0 : WB.cell? ⟨WA.heap.size,0,none⟩ = some (.int .i64 1):=by rw [cell_of_row _ _ _ _ _ _ HSB.out.1];rfl
 have t1 : WB.cell? ⟨WA.heap.size,1,none⟩ = some (.string { data:=#[] }):=by rw [cell_of_row _ _ _ _ _ _ HSB.out.1];rfl
 have t2 : WB.cell? ⟨WA.heap.size,2,none⟩ = some (.string n):=by rw [cell_of_row _ _ _ _ _ _ HSB.out.1];rfl
 have t3 : WB.cell? ⟨WA.heap.size,3,none⟩ = some (.int .i64 D.files.length):=by rw [cell_of_row _ _ _ _ _ _ HSB.out.1];rfl
 have hal : ∀ o,Below WB.heap.size WB (WB.alloc o):=fun o=>(Below.refl _ _).alloc (Nat.le_refl _) o
 have q4 : ∀ o,(WB.alloc o).cell? ⟨p,4,none⟩ = some (.slice at_ D.steps.length qt):=fun o=>cell_later (hal o) c4
 have HR : Hid (WB.ownsRow 0 97 4 (.slice at_ D.steps.length qt) D.steps.length (cellsT D.steps)):=by
  have:=HDB.out.rt
  rw [show ({ D.chg with files:=D.files ++ [Fl.z] } : Dk).steps = D.steps from D.chg_steps] at this
  exact this
 go_region_law
  ((refine step_append_keeps rfl _ _ 92 rfl 0 97 j0 (.agg #[.int .i64 0,.string ByteArray.empty,.string ByteArray.empty,.int .i64 0]) 4 48 Tryz.underlying92 hj hj0 hj1 hj2 rfl (by decide) (.slice at_ D.steps.length qt) D.steps.length (cellsT D.steps) rfl (own_drw (HR.out.alloc _)) ⟨WB.heap.size,0,none⟩ 1 1 [.int .i64 1,.string ByteArray.empty,.string n,.int .i64 D.files.length] rfl rfl (by decide) (fun j u h=>cells_four_new WB _ _ _ _ _ j u h) (one_cellsT [D.step1 n]) (by omega) (by omega) (by omega) ?_);(
   intro v4 w4 hown _ hgrow hv4;obtain ⟨a4,r4,hv4s,_,_,_⟩:=own_cells hown;subst hv4s;obtain ⟨k4,fz4,HF,HTF,HBX⟩:=DiskIn.pack4 (x:=D.step1 n) HDB.out HSB.out.2 HTC.out HSB.out.1 HNB.out hgrow (by rw [show ({ D.chg with files:=D.files ++ [Fl.z] } : Dk).steps = D.steps from D.chg_steps];exact hown) hv4;clear hown hgrow hv4))
 all_goals
  obtain ⟨WC,hWC,HDC,HTD,HBC⟩ : ∃ WC,(w4.setCell ⟨p,4,none⟩ (.slice a4 (D.steps.length + 1) r4)) = WC/\Hid (DiskIn Z WC p { D.chg with files:=D.files ++ [Fl.z],steps:=D.steps ++ [D.step1 n] } (.slice a3 (D.files.length + 1) q3) (.slice an D.now.length cn) vs (.slice a4 (D.steps.length + 1) r4))/\Hid (Tr Z w WC) /\
    Hid (WC.heap[WA.heap.size]? = some (.cells #[.int .i64 1,.string { data:=#[] },.string n,.int .i64 D.files.length] 97 (0,0))) :=
   ⟨_,rfl,by have h:=HF;rw [show ({ D.chg with files:=D.files ++ [Fl.z] } : Dk).steps = D.steps from D.chg_steps] at h;exact h,HTF,HBX⟩
  rw [hWC]
  clear hWC HF HTF HBX k4 fz4 HR q4 hal t0 t1 t2 t3 c4 HSB HDB HTC HNB
  have c2 : WC.cell? ⟨p,2,none⟩ = some (.slice an D.now.length cn):=(HDC.out.cell 2).trans rfl
  have t0 : WC.cell? ⟨WA.heap.size,0,none⟩ = some (.int .i64 1):=by rw [cell_of_row _ _ _ _ _ _ HBC.out];rfl
  have t1 : WC.cell? ⟨WA.heap.size,1,none⟩ = some (.string { data:=#[] }):=by rw [cell_of_row _ _ _ _ _ _ HBC.out];rfl
  have t2 : WC.cell? ⟨WA.heap.size,2,none⟩ = some (.string n):=by rw [cell_of_row _ _ _ _ _ _ HBC.out];rfl
  have t3 : WC.cell? ⟨WA.heap.size,3,none⟩ = some (.int .i64 D.files.length):=by rw [cell_of_row _ _ _ _ _ _ HBC.out];rfl
  have HC : Hid (∀ w',Below WC.heap.size WC w'->Calls Tryz.prog 43 #[.slice an D.now.length cn,.agg #[.int .i64 1,.string { data:=#[] },.string n,.int .i64 D.files.length]] w' fun e w''=>∃ v',e = .returned v'/\w''.ownsRow w'.heap.size 102 2 v' (doS D.now (D.step1 n)).length (cellsN (doS D.now (D.step1 n)))/\Below w'.heap.size w' w''):=by
   intro w' hb'
   have hnn:=HDC.out.rn
   rw [show ({ D.chg with files:=D.files ++ [Fl.z],steps:=D.steps ++ [D.step1 n] } : Dk).now = D.now from D.chg_now] at hnn
   exact do_any _ D.now (D.step1 n) w' (own_below hnn hb') hln
  go_upto_region 8 with (fail)
  go_region_with (go_at_call 43;refine (HC.out _ (by repeat (first | exact Below.refl _ _ | refine Below.drew ?_ | refine below_drewN ?_ _))).mono ?_;rintro e w5 ⟨v5,rfl,hown5,hb5'⟩;have hb5 : Below WC.heap.size WC w5:=(by repeat (first | exact hb5' | exact Below.refl _ _ | refine Below.trans ?_ hb5' | refine Below.drew ?_ | refine below_drewN ?_ _));have k2 : w5.cell? ⟨p,2,none⟩ = some (.slice an D.now.length cn):=((HDC.out.below hb5).cell 2).trans rfl;have fz5:=(HDC.out.below hb5).frozen;obtain ⟨a5,r5,hv5,_,_,_⟩:=own_cells hown5;subst hv5)
  all_goals
   go_wp2
   go_ret
   refine ⟨by rw [HM.out];rfl,?_,(HTD.out.trans (below_tr hb5 Z)).setCell HDC.out.zp _⟩
   rw [HX.out]
   exact ⟨_,_,_,_,DiskIn.setN (HDC.out.below hb5) (own_base hown5 (Nat.zero_le _)) (fun k hk=>(HZ0.out.tr HTD.out) k (hown5.lt k hk).1)⟩
end Go.Proofs.YtilkdeghknjjhaaGreatDoor
