/- A part of the proof. -/
import Derived.Test.YtilkdeghknjjhaaGreatDoorPart35
import Derived.Defers
set_option maxRecDepth 20000
set_option maxHeartbeats 3200000
set_option linter.unusedVariables false
namespace Go.Proofs.YtilkdeghknjjhaaGreatDoor
open Go.RowKit M Go.Maps
variable {Z Y : Nat->Prop} {w w' : World} {D : Dk} {s j d n : Nat} {mv : Value} {J : Jn} {S : St}
theorem DiskAt.close {p : Nat} (h : DiskAt Z w p D) : DiskAt (fun k=>Z k/\k < w.heap.size) w p D:=by
 obtain ⟨a,b,c,d,h⟩:=h
 exact ⟨a,b,c,d,⟨h.zp,(Array.getElem?_eq_some_iff.1 h.hp).1⟩,h.hp,h.rf,h.rn,h.rs,h.rt,fun k hk=>⟨h.zf k hk,(h.rf.lt k hk).2⟩,fun k hk=>⟨h.zn k hk,(h.rn.lt k hk).2⟩,fun k hk=>⟨h.zs k hk,(h.rs.lt k hk).2⟩,fun k hk=>⟨h.zt k hk,(h.rt.lt k hk).2⟩⟩
structure Sto (Z Y : Nat->Prop) (w : World) (s j d : Nat) (mv : Value) (n : Nat) (D : Dk) (J : Jn) (S : St) : Prop where
 side : Side Z w j d D J
 st : StIn Y w s (.pointer (some ⟨d,0,none⟩)) (.pointer (some ⟨j,0,none⟩)) mv n S
 jz : ¬ Z j
 jy : ¬ Y j
 dj : ∀ k,Z k->Y k->False
 lz : ∀ k,Z k->k < w.heap.size
 v5 : ∀ k,k < 5->¬ Z k/\¬ Y k
 j5 : 5<=j
theorem Sto.jlt (h : Sto Z Y w s j d mv n D J S) : j < w.heap.size:=(Array.getElem?_eq_some_iff.1 h.side.jn).1
theorem Sto.below (h : Sto Z Y w s j d mv n D J S) (b : Below w.heap.size w w') : Sto Z Y w' s j d mv n D J S :=
 ⟨h.side.below b,h.st.below b,h.jz,h.jy,h.dj,fun k hk=>Nat.lt_of_lt_of_le (h.lz k hk) b.size,h.v5,h.j5⟩
theorem Sto.open_ (h : Sto Z Y w s j d mv n D J S) :
  Side (Zn Z w.heap.size) w j d D J/\Apart (Zn Z w.heap.size) j/\Opn (Zn Z w.heap.size) w:=by
 refine ⟨⟨h.side.dk.mono fun k hk=>.inl hk,h.side.jn,h.side.vs⟩,⟨fun hj=>?_,fun k hk hz=>?_,h.j5⟩,Zn.opn Z w⟩
 ·rcases hj with hj | hj
  ·exact h.jz hj
  ·have:=h.jlt;omega
 ·rcases hz with hz | hz
  ·exact (h.v5 k hk).1 hz
  ·have:=h.side.vs.five;omega
theorem Sto.disk {D' : Dk} {J' : Jn} (h : Sto Z Y w s j d mv n D J S) (hs : Side (Zn Z w.heap.size) w' j d D' J') (t : Tr (Zj (Zn Z w.heap.size) j) w w') :
  Sto (Yn Z w.heap.size w'.heap.size) Y w' s j d mv n D' J' S:=by
 have hsep : ∀ k,Y k->¬ Zj (Zn Z w.heap.size) j k:=fun k hk hz=>by
  rcases hz with (hz | hz) | hz
  ·exact h.dj k hz hk
  ·have:=h.st.lt k hk;omega
  ·exact h.jy (hz ▸ hk)
 refine ⟨⟨hs.dk.close.mono fun k hk=>?_,hs.jn,hs.vs⟩,h.st.tr t hsep,fun hj=>?_,h.jy,fun k hz hy=>?_,fun k hz=>?_,fun k hk=>⟨fun hz=>?_,(h.v5 k hk).2⟩,h.j5⟩
 ·obtain ⟨hz | hz,hl⟩:=hk
  ·exact .inl hz
  ·exact .inr ⟨hz,hl⟩
 ·rcases hj with hj | hj
  ·exact h.jz hj
  ·have:=h.jlt;omega
 ·rcases hz with hz | hz
  ·exact h.dj k hz hy
  ·have:=h.st.lt k hy;omega
 ·rcases hz with hz | hz
  ·exact Nat.lt_of_lt_of_le (h.lz k hz) t.size
  ·exact hz.2
 ·rcases hz with hz | hz
  ·exact (h.v5 k hk).1 hz
  ·have:=h.side.vs.five;omega
def Zs (Z Y : Nat->Prop) (j : Nat) : Nat->Prop:=fun k=>Z k\/Y k\/k = j
def Zt (Z : Nat->Prop) (j s : Nat) : Nat->Prop:=fun k=>Z k\/k = j\/k = s
theorem Sto.trDisk (t : Tr (Zj (Zn Z w.heap.size) j) w w') : Tr (Zt Z j s) w w':=t.mono fun k hk hz=>by
 rcases hz with (hz | hz) | hz
 ·exact .inl hz
 ·omega
 ·exact .inr (.inl hz)
theorem SetIn.zt {v : Value} {E : Se} (hs : Sto Z Y w s j d mv n D J S) (t : Tr (Zt Z j s) w w') (h : SetIn Y w v E) : SetIn Y w' v E:=by
 obtain ⟨vc,vl,rfl,h1,h2,h3,h4⟩:=h.ex
 have hne : ∀ {e : TypeId} {sz : Nat} {u : Value} {k : Nat} {xs : List Value},w.ownsRow 0 e sz u k xs->InZ Y u->e ≠ 86->w'.ownsRow 0 e sz u k xs:=by
  intro e sz u k xs ho hz he
  refine ⟨ho.1,?_⟩
  rcases ho.2 with hn | ⟨g,cap,cur,rfl,hb,hg,rest⟩
  ·exact .inl hn
  ·refine .inr ⟨g,cap,cur,rfl,hb,t.heap hg (fun hx=>?_),rest⟩
   have hy : Y g:=hz g (by simp [Value.ownBlock])
   rcases hx with hx | hx | hx
   ·exact hs.dj g hx hy
   ·exact hs.jy (hx ▸ hy)
   ·rw [hx,hs.st.hs] at hg
    injection hg with hg
    injection hg with _ h2 _
    exact he h2.symm
 exact ⟨vc,vl,rfl,hne h1 h3 (by decide),hne h2 h4 (by decide),h3,h4⟩
theorem Sto.set {S' : St} (h : Sto Z Y w s j d mv n D J S) (o : Nat) (u : Value)
  (hst : StIn Y (w.setCell ⟨s,o,none⟩ u) s (.pointer (some ⟨d,0,none⟩)) (.pointer (some ⟨j,0,none⟩)) mv n S') : Sto Z Y (w.setCell ⟨s,o,none⟩ u) s j d mv n D J S'/\Tr (Zt Z j s) w (w.setCell ⟨s,o,none⟩ u):=by
 have t : Tr (One s) w (w.setCell ⟨s,o,none⟩ u):=(Tr.refl _ w).set1 o u
 have hsz : (w.setCell ⟨s,o,none⟩ u).heap.size = w.heap.size:=by simp [World.setCell]
 refine ⟨⟨⟨h.side.dk.tr t (fun k hk (e : k = s)=>h.dj k hk (e ▸ h.st.ys)),h.side.jn.tr t (fun (e : j = s)=>h.jy (e ▸ h.st.ys)),h.side.vs.tr t (fun k hk (e : k = s)=>(h.v5 k hk).2 (e ▸ h.st.ys))⟩,hst,h.jz,h.jy,h.dj,fun k hk=>by rw [hsz];exact h.lz k hk,h.v5,h.j5⟩,t.mono fun k _ (e : k = s)=>.inr (.inr e)⟩
def holdF (D : Dk) (J : Jn) (S : St) : Bool × Dk × St:=if (jsync D J).1 = true then (true,(jsync D J).2,{ S with held:=S.cnt }) else (false,(jsync D J).2,S)
theorem hold_any (Z Y : Nat->Prop) (s j d : Nat) (mv : Value) (n : Nat) (D : Dk) (J : Jn) (S : St) (w : World) (h : Sto Z Y w s j d mv n D J S) (hwf : D.WF) (hbu : D.Bud 2) (hn : J.num < 1000000000) :
  Calls Tryz.prog 41 #[.pointer (some ⟨s,0,none⟩)] w fun e w'=>e = .returned (.bool (holdF D J S).1)/\(∃ Z',Sto Z' Y w' s j d mv n (holdF D J S).2.1 J (holdF D J S).2.2/\∀ k,Z' k->Z k\/w.heap.size<=k)/\Tr (Zt Z j s) w w':=by
 obtain ⟨o1,o2,o3⟩:=h.open_
 have HS:=jSync_any (Zn Z w.heap.size) j d D J w o1 o2 hwf hbu hn
 have c4 : w.cell? ⟨s,4,none⟩ = some (.pointer (some ⟨j,0,none⟩)):=(h.st.cell 4).trans rfl
 have HH : Hid (holdF D J S = if (jsync D J).1 = true then (true,(jsync D J).2,{ S with held:=S.cnt }) else (false,(jsync D J).2,S)):=rfl
 obtain ⟨⟨b,D1⟩,hq⟩ : ∃ q,jsync D J = q:=⟨_,rfl⟩
 rw [hq] at HS HH
 simp only at HS HH
 have H0 : Hid (Sto Z Y w s j d mv n D J S):=h
 clear hq h hwf hbu o1 o2 o3
 go_enter Tryz.func41,Tryz.ntmps41
 go_wp2_with fail
 refine HS.mono ?_
 rintro e w1 ⟨rfl,h1,t1⟩
 have h2:=H0.out.disk h1 (t1.zj j)
 have T2 : Hid (Tr (Zt Z j s) w w1):=Sto.trDisk (t1.zj j)
 have HZ : Hid (∀ k,Yn Z w.heap.size w1.heap.size k->Z k\/w.heap.size<=k):=fun k hk=>hk.imp (fun h=>h) (fun h=>h.1)
 have f6 : w1.cell? ⟨s,6,none⟩ = some (.int .i64 S.cnt):=(h2.st.cell 6).trans rfl
 have f7 : w1.cell? ⟨s,7,none⟩ = some (.int .i64 S.held):=(h2.st.cell 7).trans rfl
 have fz : ∀ o,w1.frozen? ⟨s,o,none⟩ = false:=h2.st.frozen
 have H2 : Hid (Sto (Yn Z w.heap.size w1.heap.size) Y w1 s j d mv n D1 J S):=h2
 clear h1 t1 h2 c4 H0
 cases b
 ·have HE : Hid (holdF D J S = (false,D1,S)):=HH
  clear HH
  go_wp2
  go_ret
  exact ⟨by rw [HE.out];rfl,⟨_,by rw [HE.out];exact H2.out,HZ.out⟩,T2.out⟩
 ·have HE : Hid (holdF D J S = (true,D1,{ S with held:=S.cnt })):=HH
  clear HH
  go_wp2
  go_ret
  obtain ⟨h3,t3⟩:=H2.out.set 7 (.int .i64 S.cnt) (H2.out.st.setS (S':={ S with held:=S.cnt }) 7 _ rfl rfl)
  refine ⟨by rw [HE.out];rfl,⟨_,by rw [HE.out];exact h3,HZ.out⟩,T2.out.trans' t3 fun k hk hz=>?_⟩
  rcases hz with (hz | hz) | hz
  ·exact .inl hz
  ·omega
  ·exact .inr hz
end Go.Proofs.YtilkdeghknjjhaaGreatDoor
namespace Go.Proofs.YtilkdeghknjjhaaGreatDoor
open Go.RowKit M Go.Maps
variable {Z Y : Nat->Prop} {w w1 w' : World} {s j d n : Nat} {mv : Value} {D : Dk} {J : Jn} {S : St}
def StoE (Z Y : Nat->Prop) (w w' : World) (s j d : Nat) (mv : Value) (n : Nat) (D : Dk) (J : Jn) (S : St) : Prop :=
 (∃ Z',Sto Z' Y w' s j d mv n D J S/\∀ k,Z' k->Z k\/w.heap.size<=k)/\Tr (Zt Z j s) w w'
theorem StoE.refl (h : Sto Z Y w s j d mv n D J S) : StoE Z Y w w s j d mv n D J S:=⟨⟨Z,h,fun k hk=>.inl hk⟩,Tr.refl _ _⟩
theorem StoE.below (hb : Below w.heap.size w w1) (h : StoE Z Y w1 w' s j d mv n D J S) : StoE Z Y w w' s j d mv n D J S:=by
 obtain ⟨⟨Z',h1,h2⟩,t⟩:=h
 exact ⟨⟨Z',h1,fun k hk=>(h2 k hk).imp (fun h=>h) (fun h=>Nat.le_trans hb.size h)⟩,(below_tr hb _).trans t⟩
theorem StoE.trans {Z1 : Nat->Prop} (t : Tr (Zt Z j s) w w1) (hz : ∀ k,Z1 k->Z k\/w.heap.size<=k) (h : StoE Z1 Y w1 w' s j d mv n D J S) : StoE Z Y w w' s j d mv n D J S:=by
 obtain ⟨⟨Z',h1,h2⟩,t2⟩:=h
 refine ⟨⟨Z',h1,fun k hk=>?_⟩,t.trans' t2 fun k hk hx=>?_⟩
 ·rcases h2 k hk with h | h
  ·exact hz k h
  ·exact .inr (Nat.le_trans t.size h)
 ·rcases hx with hx | hx
  ·rcases hz k hx with h | h
   ·exact .inl h
   ·omega
  ·exact .inr hx
def writeF (D : Dk) (J : Jn) (S : St) (t : ByteArray) : Bool × Dk × Jn × St :=
 if (jappend D J t).1 = false then (false,(jappend D J t).2.1,(jappend D J t).2.2,S)
 else if S.every = 0\/S.cnt - S.held < S.every then (true,(jappend D J t).2.1,(jappend D J t).2.2,S)
 else ((holdF (jappend D J t).2.1 (jappend D J t).2.2 S).1,(holdF (jappend D J t).2.1 (jappend D J t).2.2 S).2.1,(jappend D J t).2.2,(holdF (jappend D J t).2.1 (jappend D J t).2.2 S).2.2)
theorem jwrite_wf (h : D.WF) (hb : D.Bud 1) (J : Jn) (t : ByteArray) (hs : D.sizeOf (fnm J.num) + t.size<=1000000000) : (jwrite D J t).2.1.WF:=by
 have:=h.append hb.lt (fnm J.num) t hs
 unfold jwrite
 split <;> exact this
theorem jwrite_bud {k : Nat} (hb : D.Bud (k + 1)) (J : Jn) (t : ByteArray) : (jwrite D J t).2.1.Bud k:=by
 unfold jwrite
 split <;> exact hb.append _ _
theorem jwrite_num (D : Dk) (J : Jn) (t : ByteArray) : (jwrite D J t).2.2.num = J.num:=by unfold jwrite;split <;> rfl
theorem jappend_num (D : Dk) (J : Jn) (t : ByteArray) : (jappend D J t).2.2.num<=J.num + 1:=by
 have:=jbegin_num D J
 unfold jappend
 split
 ·split
  ·rw [jwrite_num];exact this.1
  ·exact this.1
 ·rw [jwrite_num];omega
theorem jappend_bud {k : Nat} (hw : D.WF) (hb : D.Bud (k + 3)) (J : Jn) (t : ByteArray) : (jappend D J t).2.1.Bud k:=by
 unfold jappend
 split
 ·split
  ·exact jwrite_bud (jbegin_bud hw hb J) _ _
  ·exact (jbegin_bud hw (k:=k + 1) hb J).mono (by omega)
 ·exact (jwrite_bud (k:=k + 2) hb J t).mono (by omega)
theorem swrite_any (Z Y : Nat->Prop) (s j d : Nat) (mv : Value) (n : Nat) (D : Dk) (J : Jn) (S : St) (m : Mt) (vc : Value) (w : World) (h : Sto Z Y w s j d mv n D J S) (hwf : D.WF) (hwf2 : (jappend D J (encM m)).2.1.WF) (hbu : D.Bud 5) (hn : J.num < 900000000) (hs : J.size<=1000000000) (hr : J.roll<=1000000000)
  (hrd : Rd w vc m.c) (hk : m.k.size<=255) (hv : m.v.size<=255) (hc0 : 0<=S.held) (hc1 : S.held<=S.cnt) (hc2 : S.cnt<=4611686018427387904) :
  Calls Tryz.prog 94 #[.pointer (some ⟨s,0,none⟩),mtV m vc] w fun e w'=>e = .returned (.bool (writeF D J S (encM m)).1)/\StoE Z Y w w' s j d mv n (writeF D J S (encM m)).2.1 (writeF D J S (encM m)).2.2.1 (writeF D J S (encM m)).2.2.2:=by
 have hb5:=jappend_bud (k:=2) hwf hbu J (encM m)
 have hnn:=jappend_num D J (encM m)
 obtain ⟨del,node,count,k,c,v⟩:=m
 obtain ⟨av,lv,cv,rfl⟩ : ∃ a l cap,vc = .slice a l cap:=by obtain ⟨a,cap,h,_⟩:=hrd;exact ⟨_,_,_,h⟩
 have HW : Hid (writeF D J S (encM ⟨del,node,count,k,c,v⟩) = if (jappend D J (encM ⟨del,node,count,k,c,v⟩)).1 = false then (false,(jappend D J (encM ⟨del,node,count,k,c,v⟩)).2.1,(jappend D J (encM ⟨del,node,count,k,c,v⟩)).2.2,S)
  else if S.every = 0\/S.cnt - S.held < S.every then (true,(jappend D J (encM ⟨del,node,count,k,c,v⟩)).2.1,(jappend D J (encM ⟨del,node,count,k,c,v⟩)).2.2,S)
  else ((holdF (jappend D J (encM ⟨del,node,count,k,c,v⟩)).2.1 (jappend D J (encM ⟨del,node,count,k,c,v⟩)).2.2 S).1,(holdF (jappend D J (encM ⟨del,node,count,k,c,v⟩)).2.1 (jappend D J (encM ⟨del,node,count,k,c,v⟩)).2.2 S).2.1,(jappend D J (encM ⟨del,node,count,k,c,v⟩)).2.2,(holdF (jappend D J (encM ⟨del,node,count,k,c,v⟩)).2.1 (jappend D J (encM ⟨del,node,count,k,c,v⟩)).2.2 S).2.2)):=rfl
 obtain ⟨W,hW,HB,hrow⟩ : ∃ W,(w.alloc (.cells #[.bool del,.int .i64 node,.int .i64 count,.string k,.slice av lv cv,.string v] 111)) = W/\Hid (Below w.heap.size w W)/\W.heap[w.heap.size]? = some (.cells #[.bool del,.int .i64 node,.int .i64 count,.string k,.slice av lv cv,.string v] 111 (0,0)) :=
  ⟨_,rfl,(Below.refl _ _).alloc (Nat.le_refl _) _,heap_alloc_new w _⟩
 have H0 : Hid (Sto Z Y W.drew s j d mv n D J S):=h.below (Below.drew HB.out)
 obtain ⟨o1,o2,o3⟩:=H0.out.open_
 have HA : Hid (Calls Tryz.prog 157 #[.pointer (some ⟨j,0,none⟩),.agg #[.bool del,.int .i64 node,.int .i64 count,.string k,.slice av lv cv,.string v]] W.drew fun e w'=>e = .returned (.bool (jappend D J (encM ⟨del,node,count,k,c,v⟩)).1)/\Side (Zn Z W.drew.heap.size) w' j d (jappend D J (encM ⟨del,node,count,k,c,v⟩)).2.1 (jappend D J (encM ⟨del,node,count,k,c,v⟩)).2.2/\Tr (Zj (Zn Z W.drew.heap.size) j) W.drew w') :=
  jAppend_any (Zn Z W.drew.heap.size) j d D J ⟨del,node,count,k,c,v⟩ (.slice av lv cv) W.drew o1 o2 o3 hwf (hbu.mono (by omega)) hn hs hr (hrd.below (Below.drew HB.out)) hk hv
 have hcell : ∀ o,W.cell? ⟨w.heap.size,o,none⟩ = #[Value.bool del,.int .i64 node,.int .i64 count,.string k,.slice av lv cv,.string v][o]?:=fun o=>by rw [cell_of_row _ _ _ _ _ _ hrow]
 have x0 : W.drew.cell? ⟨w.heap.size,0,none⟩ = some (.bool del):=(hcell 0).trans rfl
 have x1 : W.drew.cell? ⟨w.heap.size,1,none⟩ = some (.int .i64 node):=(hcell 1).trans rfl
 have x2 : W.drew.cell? ⟨w.heap.size,2,none⟩ = some (.int .i64 count):=(hcell 2).trans rfl
 have x3 : W.drew.cell? ⟨w.heap.size,3,none⟩ = some (.string k):=(hcell 3).trans rfl
 have x4 : W.drew.cell? ⟨w.heap.size,4,none⟩ = some (.slice av lv cv):=(hcell 4).trans rfl
 have x5 : W.drew.cell? ⟨w.heap.size,5,none⟩ = some (.string v):=(hcell 5).trans rfl
 have c4 : W.drew.cell? ⟨s,4,none⟩ = some (.pointer (some ⟨j,0,none⟩)):=(H0.out.st.cell 4).trans rfl
 obtain ⟨⟨b,D1,J1⟩,hq⟩ : ∃ q,jappend D J (encM ⟨del,node,count,k,c,v⟩) = q:=⟨_,rfl⟩
 obtain ⟨R,hR⟩ : ∃ R,writeF D J S (encM ⟨del,node,count,k,c,v⟩) = R:=⟨_,rfl⟩
 rw [hq] at HA HW hb5 hnn hwf2
 rw [hR] at HW ⊢
 simp only at HA HW hb5 hnn hwf2
 have HH : Hid (∀ X Z1,Sto Z1 Y X s j d mv n D1 J1 S->Calls Tryz.prog 41 #[.pointer (some ⟨s,0,none⟩)] X fun e w'=>e = .returned (.bool (holdF D1 J1 S).1)/\StoE Z1 Y X w' s j d mv n (holdF D1 J1 S).2.1 J1 (holdF D1 J1 S).2.2):=fun X Z1 hX=>hold_any Z1 Y s j d mv n D1 J1 S X hX hwf2 hb5 (by omega)
 have hcw : IntKind.i64.wrap (S.cnt - S.held) = S.cnt - S.held:=wrap_in _ (by omega) (by omega)
 have hx0 : (0 : Int)<=S.cnt - S.held:=by omega
 have hx1 : S.cnt - S.held<=4611686018427387904:=by omega
 have HT : Hid (∀ w1,Side (Zn Z W.drew.heap.size) w1 j d D1 J1->Tr (Zj (Zn Z W.drew.heap.size) j) W.drew w1->∃ Z1,Sto Z1 Y w1 s j d mv n D1 J1 S/\(∀ w' DD JJ SS,StoE Z1 Y w1 w' s j d mv n DD JJ SS->StoE Z Y w w' s j d mv n DD JJ SS)):=by
  intro w1 g1 g2
  exact ⟨_,H0.out.disk g1 g2,fun w' DD JJ SS hh=>StoE.below (Below.drew HB.out) (StoE.trans (Sto.trDisk g2) (fun k hk=>hk.imp (fun h=>h) fun h=>h.1) hh)⟩
 have HK : Hid (∀ w1,Side (Zn Z W.drew.heap.size) w1 j d D1 J1->Tr (Zj (Zn Z W.drew.heap.size) j) W.drew w1->w1.cell? ⟨s,4,none⟩ = some (.pointer (some ⟨j,0,none⟩))/\w1.cell? ⟨w.heap.size,0,none⟩ = some (.bool del)/\w1.cell? ⟨w.heap.size,1,none⟩ = some (.int .i64 node)/\w1.cell? ⟨w.heap.size,2,none⟩ = some (.int .i64 count)/\w1.cell? ⟨w.heap.size,3,none⟩ = some (.string k)/\w1.cell? ⟨w.heap.size,4,none⟩ = some (.slice av lv cv)/\w1.cell? ⟨w.heap.size,5,none⟩ = some (.string v)):=by
  intro w1 g1 g2
  have hws : w.heap.size < W.drew.heap.size:=by
   have : W.drew.heap.size = w.heap.size + 1:=by rw [<- hW];simp
   omega
  have hz : ¬ Zj (Zn Z W.drew.heap.size) j w.heap.size:=fun hz=>by
   rcases hz with (hz | hz) | hz
   ·have:=h.lz _ hz;omega
   ·omega
   ·have:=h.jlt;omega
  exact ⟨((H0.out.disk g1 g2).st.cell 4).trans rfl,cell_tr g2 x0 hz,cell_tr g2 x1 hz,cell_tr g2 x2 hz,cell_tr g2 x3 hz,cell_tr g2 x4 hz,cell_tr g2 x5 hz⟩
 clear hq hR hrd h o1 o2 o3 hrow hcell hwf hwf2 hbu hb5 hnn hn hs hr hk hv H0 HB
 unfold mtV
 simp only
 go_enter Tryz.func94,Tryz.ntmps94
 go_upto_region 1 with (fail)
 clear hW
 go_region_held3 (fun w'=>w'.cell? ⟨s,4,none⟩ = some (.pointer (some ⟨j,0,none⟩))/\w'.cell? ⟨w.heap.size,0,none⟩ = some (.bool del)/\w'.cell? ⟨w.heap.size,1,none⟩ = some (.int .i64 node)/\w'.cell? ⟨w.heap.size,2,none⟩ = some (.int .i64 count)/\w'.cell? ⟨w.heap.size,3,none⟩ = some (.string k)/\w'.cell? ⟨w.heap.size,4,none⟩ = some (.slice av lv cv)/\w'.cell? ⟨w.heap.size,5,none⟩ = some (.string v))
  (first | exact ⟨c4,x0,x1,x2,x3,x4,x5⟩ | assumption)
  (first
   | ((go_at_call 157;refine HA.out.mono ?_;rintro e w1 ⟨rfl,g1,g2⟩;have hkk:=HK.out w1 g1 g2)))
 obtain ⟨Z1,hS1,hEnd⟩:=HT.out w1 g1 g2
 have HS1 : Hid (Sto Z1 Y w1 s j d mv n D1 J1 S):=hS1
 have HEnd : Hid (∀ w' DD JJ SS,StoE Z1 Y w1 w' s j d mv n DD JJ SS->StoE Z Y w w' s j d mv n DD JJ SS):=hEnd
 have f2 : w1.cell? ⟨s,2,none⟩ = some (.int .i64 S.every):=(hS1.st.cell 2).trans rfl
 have f6 : w1.cell? ⟨s,6,none⟩ = some (.int .i64 S.cnt):=(hS1.st.cell 6).trans rfl
 have f7 : w1.cell? ⟨s,7,none⟩ = some (.int .i64 S.held):=(hS1.st.cell 7).trans rfl
 clear hkk g1 g2 hS1 hEnd x0 x1 x2 x3 x4 x5 c4 HA HT HK
 cases b
 ·have HE : Hid (R = (false,D1,J1,S)):=by show _ = _;rw [HW.out,if_pos rfl]
  clear HW
  go_wp2
  go_ret
  exact ⟨by rw [HE.out];rfl,by rw [HE.out];exact HEnd.out _ _ _ _ (StoE.refl HS1.out)⟩
 ·go_upto_region 3 with (fail)
  by_cases q1 : S.every = 0
  ·have HE : Hid (R = (true,D1,J1,S)):=by show _ = _;rw [HW.out,if_neg (by simp),if_pos (.inl q1)]
   have q1b : (S.every == 0) = true:=by simp [q1]
   clear HW q1
   go_quiet (fail)
   go_wp2
   go_ret
   exact ⟨by rw [HE.out];rfl,by rw [HE.out];exact HEnd.out _ _ _ _ (StoE.below (below_drewN (Below.refl _ _) _) (StoE.refl (HS1.out.below (below_drewN (Below.refl _ _) _))))⟩
  ·have q1b : (S.every == 0) = false:=by simp [q1]
   by_cases q2 : S.cnt - S.held < S.every
   ·have HE : Hid (R = (true,D1,J1,S)):=by show _ = _;rw [HW.out,if_neg (by simp),if_pos (.inr q2)]
    clear HW q1
    go_quiet (fail)
    go_wp2
    go_ret
    exact ⟨by rw [HE.out];rfl,by rw [HE.out];exact HEnd.out _ _ _ _ (StoE.below (below_drewN (Below.refl _ _) _) (StoE.refl (HS1.out.below (below_drewN (Below.refl _ _) _))))⟩
   ·have HE : Hid (R = ((holdF D1 J1 S).1,(holdF D1 J1 S).2.1,J1,(holdF D1 J1 S).2.2)):=by show _ = _;rw [HW.out,if_neg (by simp),if_neg (fun h=>h.elim q1 q2)]
    obtain ⟨hq3,hq3e⟩ : ∃ q,holdF D1 J1 S = q:=⟨_,rfl⟩
    rw [hq3e] at HE HH
    clear HW q1 hq3e
    go_quiet (fail)
    go_wp2_with fail
    refine (HH.out _ Z1 (HS1.out.below (below_drewN (Below.refl _ _) _))).mono ?_
    rintro e w2 ⟨rfl,h2⟩
    go_wp2
    go_ret
    exact ⟨by rw [HE.out];rfl,by rw [HE.out];exact HEnd.out _ _ _ _ (StoE.below (below_drewN (Below.refl _ _) _) h2)⟩
end Go.Proofs.YtilkdeghknjjhaaGreatDoor
namespace Go.Proofs.YtilkdeghknjjhaaGreatDoor
open Go.RowKit M Go.Maps
variable {Y Z : Nat->Prop} {w w' w1 : World} {s n m j d : Nat} {mv : Value} {S : St} {D : Dk} {J : Jn}
def StoX (Z Y : Nat->Prop) (w w' : World) (s j d : Nat) (n : Nat) (D : Dk) (J : Jn) (S : St) : Prop :=
 (∃ Z' Y' mv',Sto Z' Y' w' s j d mv' n D J S/\(∀ k,Z' k->Z k\/w.heap.size<=k)/\(∀ k,Y' k->Y k\/w.heap.size<=k))/\Tr (Zs Z Y j) w w'
theorem StIn.more {dv jv : Value} (h : StIn Y w s dv jv mv n S) (hm : n<=m) : StIn Y w s dv jv mv m S:=⟨h.lt,h.ys,h.ym,h.hs,h.tab.mono (fun _ hk=>hk) hm⟩
theorem Sto.more (h : Sto Z Y w s j d mv n D J S) (hm : n<=m) : Sto Z Y w s j d mv m D J S :=
 ⟨h.side,h.st.more hm,h.jz,h.jy,h.dj,h.lz,h.v5,h.j5⟩
theorem StoX.refl (h : Sto Z Y w s j d mv n D J S) (hb : Below w.heap.size w w') (hm : n<=m) : StoX Z Y w w' s j d m D J S :=
 ⟨⟨Z,Y,mv,(h.below hb).more hm,fun k hk=>.inl hk,fun k hk=>.inl hk⟩,below_tr hb _⟩
theorem StoX.trans {Z1 Y1 : Nat->Prop} (t : Tr (Zs Z Y j) w w1) (hz : ∀ k,Z1 k->Z k\/w.heap.size<=k) (hy : ∀ k,Y1 k->Y k\/w.heap.size<=k) (h : StoX Z1 Y1 w1 w' s j d n D J S) : StoX Z Y w w' s j d n D J S:=by
 obtain ⟨⟨Z',Y',mv',h1,h2,h3⟩,t2⟩:=h
 refine ⟨⟨Z',Y',mv',h1,fun k hk=>?_,fun k hk=>?_⟩,t.trans' t2 fun k hk hx=>?_⟩
 ·rcases h2 k hk with h | h
  ·exact hz k h
  ·exact .inr (Nat.le_trans t.size h)
 ·rcases h3 k hk with h | h
  ·exact hy k h
  ·exact .inr (Nat.le_trans t.size h)
 ·rcases hx with hx | hx | hx
  ·rcases hz k hx with h | h
   ·exact .inl h
   ·omega
  ·rcases hy k hx with h | h
   ·exact .inr (.inl h)
   ·omega
  ·exact .inr (.inr hx)
theorem StoX.below (hb : Below w.heap.size w w1) (h : StoX Z Y w1 w' s j d n D J S) : StoX Z Y w w' s j d n D J S :=
 StoX.trans (below_tr hb _) (fun k hk=>.inl hk) (fun k hk=>.inl hk) h
theorem StoE.x (h : StoE Z Y w w' s j d mv n D J S) : StoX Z Y w w' s j d n D J S:=by
 obtain ⟨⟨Z',h1,h2⟩,t⟩:=h
 refine ⟨⟨Z',Y,mv,h1,h2,fun k hk=>.inl hk⟩,t.mono fun k _ hk=>?_⟩
 rcases hk with hk | hk | hk
 ·exact .inl hk
 ·exact .inr (.inr hk)
 ·exact .inr (.inl (hk ▸ h1.st.ys))
theorem Sto.own {Y' : Nat->Prop} {mv' : Value} {n' : Nat} {S' : St} (h : Sto Z Y w s j d mv n D J S) (t : Tr Y w w') (hst : StIn Y' w' s (.pointer (some ⟨d,0,none⟩)) (.pointer (some ⟨j,0,none⟩)) mv' n' S') (hY : ∀ k,Y' k->Y k\/w.heap.size<=k) :
  Sto Z Y' w' s j d mv' n' D J S':=by
 have hj:=h.jlt
 have h5:=h.side.vs.five
 refine ⟨⟨h.side.dk.tr t (fun k hk hy=>h.dj k hk hy),h.side.jn.tr t h.jy,h.side.vs.tr t (fun k hk=>(h.v5 k hk).2)⟩,hst,h.jz,fun hjy=>?_,fun k hz hy=>?_,fun k hz=>Nat.lt_of_lt_of_le (h.lz k hz) t.size,fun k hk=>⟨(h.v5 k hk).1,fun hy=>?_⟩,h.j5⟩
 ·rcases hY j hjy with h | h
  ·exact absurd h ‹Sto Z Y w s j d mv n D J S›.jy
  ·omega
 ·rcases hY k hy with h' | h'
  ·exact h.dj k hz h'
  ·have:=h.lz k hz;omega
 ·rcases hY k hy with h' | h'
  ·exact (h.v5 k hk).2 h'
  ·omega
theorem doEnd_yes (tk sb mb bb : Nat) (u : FrameMode) (w : World) (h : w.cell? ⟨tk,0,none⟩ = some (.bool true)) :
  CallsD Tryz.prog 92 #[.pointer (some ⟨tk,0,none⟩),.pointer (some ⟨sb,0,none⟩),.pointer (some ⟨mb,0,none⟩),.pointer (some ⟨bb,0,none⟩)] u w fun e u' w'=>u' = u/\(e = .returned (.tuple #[])/\w' = w):=by
 go_enter_d Tryz.func92,Tryz.ntmps92
 go_wp2
 go_end0
 exact ⟨rfl,rfl⟩
theorem doEnd_no (Y : Nat->Prop) (s : Nat) (dv jv mv : Value) (n : Nat) (S : St) (tk sb mb bb : Nat) (u : FrameMode) (w : World) (a1 a2 : Option Addr) (l1 p1 l2 p2 : Nat) (E : Se) (k : ByteArray) (c : Int) (h : StIn Y w s dv jv mv n S)
  (h1 : w.cell? ⟨tk,0,none⟩ = some (.bool false)) (h2 : w.cell? ⟨sb,0,none⟩ = some (.pointer (some ⟨s,0,none⟩))) (h3 : w.cell? ⟨mb,3,none⟩ = some (.string k)) (h4 : w.cell? ⟨mb,2,none⟩ = some (.int .i64 c)) (h5 : w.heap[bb]? = some (.cells #[.slice a1 l1 p1,.slice a2 l2 p2] 117 (0,0)))
  (hv : SetIn Y w (.agg #[.slice a1 l1 p1,.slice a2 l2 p2]) E) (hE : E.L.length<=6) (hk : k.size<=maxLen) (hn : n < 1000000000000) (hc0 : 0<=c) (hc1 : c<=9223372036854775807) :
  CallsD Tryz.prog 92 #[.pointer (some ⟨tk,0,none⟩),.pointer (some ⟨sb,0,none⟩),.pointer (some ⟨mb,0,none⟩),.pointer (some ⟨bb,0,none⟩)] u w fun e u' w'=>u' = u/\(e = .returned (.tuple #[])/\(∃ mv',StIn (Yn Y w.heap.size w'.heap.size) w' s dv jv mv' (n + 1) { S with M:=keepM S.M k E,cnt:=c - 1 })/\Tr Y w w'):=by
 have HK : Hid (Calls Tryz.prog 93 #[.pointer (some ⟨s,0,none⟩),.string k,.agg #[.slice a1 l1 p1,.slice a2 l2 p2],.int .i64 (c - 1)] w fun e w'=>e = .returned (.tuple #[])/\(∃ mv',StIn (Yn Y w.heap.size w'.heap.size) w' s dv jv mv' (n + 1) { S with M:=keepM S.M k E,cnt:=c - 1 })/\Tr Y w w'):=keep_any Y s dv jv mv n S k _ E (c - 1) w h hk hn hv hE
 have g0:=row_c0 h5
 have g1:=row_c1 h5
 clear h h5 hv hE hk hn
 go_enter_d Tryz.func92,Tryz.ntmps92
 go_wp2_with fail
 refine HK.out.mono ?_
 rintro e w' ⟨rfl,q1,q2⟩
 go_wp2
 go_end0
 exact ⟨rfl,q1,q2⟩
end Go.Proofs.YtilkdeghknjjhaaGreatDoor
namespace Go.Proofs.YtilkdeghknjjhaaGreatDoor
open Go.RowKit M Go.Maps
variable {s A g1 g2 g3 : Nat} {b : Bool}
noncomputable def doW (r : Bool × Dk × Jn × St) (E : Se) (m : Mt) : Int × Dk × Jn × St :=
 if r.1 = true then (0,r.2.1,r.2.2.1,r.2.2.2) else (7,r.2.1,r.2.2.1,{ r.2.2.2 with M:=keepM r.2.2.2.M m.k E,cnt:=m.count - 1 })
noncomputable def doG (D : Dk) (J : Jn) (S : St) (m : Mt) (q : List (Int × Int) × List Sb × Int) : Int × Dk × Jn × St:=open Classical in
 if ¬ q.2.2 = 0 then (q.2.2,D,J,S)
 else if D.cap - D.bytes < 4000 then (6,D,J,S)
 else doW (writeF D J { S with M:=keepM S.M m.k ⟨q.1,q.2.1⟩,cnt:=m.count } (encM m)) (S.M m.k) m
noncomputable def doF (D : Dk) (J : Jn) (S : St) (m : Mt) : Int × Dk × Jn × St:=doG D J S m (outF (S.M m.k) m)
theorem Sto.tr {Z Y X : Nat->Prop} {w w' : World} {j d : Nat} {mv : Value} {n : Nat} {D : Dk} {J : Jn} {S : St} (h : Sto Z Y w s j d mv n D J S) (t : Tr X w w') (hx : ∀ k,X k->¬ Z k/\¬ Y k/\k ≠ j/\5<=k) : Sto Z Y w' s j d mv n D J S :=
 ⟨⟨h.side.dk.tr t fun k hz hk=>(hx k hk).1 hz,h.side.jn.tr t fun hk=>(hx j hk).2.2.1 rfl,h.side.vs.tr t fun k hk hx'=>by have:=(hx k hx').2.2.2;omega⟩,h.st.tr t fun k hy hk=>(hx k hk).2.1 hy,h.jz,h.jy,h.dj,fun k hk=>Nat.lt_of_lt_of_le (h.lz k hk) t.size,h.v5,h.j5⟩
structure DoBx (X : World) (s A g1 g2 g3 : Nat) (mr r1 r3 : Array Value) (b : Bool) : Prop where
 a : X.heap[A]? = some (.cells #[.pointer (some ⟨s,0,none⟩)] 33 (0,0))
 m : X.heap[A + 1]? = some (.cells mr 111 (0,0))
 s1 : X.heap[g1]? = some (.cells r1 117 (0,0))
 t : X.heap[g2]? = some (.cells #[.bool b] 4 (0,0))
 s3 : X.heap[g3]? = some (.cells r3 117 (0,0))
theorem DoBx.tr {X X' : World} {P : Nat->Prop} {mr r1 r3 : Array Value} (h : DoBx X s A g1 g2 g3 mr r1 r3 b) (t : Tr P X X') (hp : ∀ k,k = A\/k = A + 1\/k = g1\/k = g2\/k = g3->¬ P k) : DoBx X' s A g1 g2 g3 mr r1 r3 b :=
 ⟨t.heap h.a (hp _ (.inl rfl)),t.heap h.m (hp _ (.inr (.inl rfl))),t.heap h.s1 (hp _ (.inr (.inr (.inl rfl)))),t.heap h.t (hp _ (.inr (.inr (.inr (.inl rfl))))),t.heap h.s3 (hp _ (.inr (.inr (.inr (.inr rfl)))))⟩
theorem DoBx.set {X : World} {mr r1 r3 : Array Value} (h : DoBx X s A g1 g2 g3 mr r1 r3 b) (u : Bool) (h1 : A ≠ g2) (h2 : A + 1 ≠ g2) (h3 : g1 ≠ g2) (h4 : g3 ≠ g2) : DoBx (X.setCell ⟨g2,0,none⟩ (.bool u)) s A g1 g2 g3 mr r1 r3 u :=
 ⟨by rw [Below.heap_setCell _ _ _ _ h1];exact h.a,by rw [Below.heap_setCell _ _ _ _ h2];exact h.m,by rw [Below.heap_setCell _ _ _ _ h3];exact h.s1,by rw [heap_setCell_self h.t];rfl,by rw [Below.heap_setCell _ _ _ _ h4];exact h.s3⟩
theorem sdo_any (Z Y : Nat->Prop) (s j d : Nat) (mv : Value) (n : Nat) (D : Dk) (J : Jn) (S : St) (m : Mt) (vc : Value) (w : World) (h : Sto Z Y w s j d mv n D J S) (hwf : D.WF) (hwf2 : (jappend D J (encM m)).2.1.WF) (hbu : D.Bud 5) (hjn : J.num < 900000000) (hjs : J.size<=1000000000) (hjr : J.roll<=1000000000)
  (hrd : Rd w vc m.c) (hrz : InZ (fun k=>¬ Y k/\k < w.heap.size) vc) (hk : m.k.size<=255) (hv : m.v.size<=255) (hn : n < 900000000000) (hc0 : 0<=S.held) (hc1 : S.held<=S.cnt) (hc : m.count = S.cnt + 1) (hc2 : S.cnt<=1000000000000000) (hE : ((S.M m.k).L).length<=6) :
  Calls Tryz.prog 50 #[.pointer (some ⟨s,0,none⟩),mtV m vc] w fun e w'=>e = .returned (.int .i64 (doF D J S m).1)/\StoX Z Y w w' s j d (n + 2) (doF D J S m).2.1 (doF D J S m).2.2.1 (doF D J S m).2.2.2:=by
 obtain ⟨del,node,count,k,c,v⟩:=m
 simp only at hrd hk hv hc hE
 obtain ⟨av,lv,cv,rfl⟩ : ∃ a l cap,vc = .slice a l cap:=by obtain ⟨a,cap,h,_⟩:=hrd;exact ⟨_,_,_,h⟩
 obtain ⟨W,hW,HB,HA,HM⟩ : ∃ W,((w.alloc (.cells #[.pointer (some ⟨s,0,none⟩)] 33)).alloc (.cells #[.bool del,.int .i64 node,.int .i64 count,.string k,.slice av lv cv,.string v] 111)) = W/\Hid (Below w.heap.size w W) /\
   Hid (W.heap[w.heap.size]? = some (.cells #[.pointer (some ⟨s,0,none⟩)] 33 (0,0)))/\Hid (W.heap[w.heap.size + 1]? = some (.cells #[.bool del,.int .i64 node,.int .i64 count,.string k,.slice av lv cv,.string v] 111 (0,0))) :=
  ⟨_,rfl,((Below.refl _ _).alloc (Nat.le_refl _) _).alloc (by simp) _,(Below.heap_alloc _ _ _ (by simp)).trans (heap_alloc_new w _),heap_alloc2_new w _ _⟩
 have hWs : w.heap.size + 2 = W.heap.size:=by rw [<- hW];simp
 have HC0 : Hid (count = S.cnt + 1):=hc
 have HYl : Hid (∀ k,Y k->k < w.heap.size):=h.st.lt
 have HYs : Hid (Y s):=h.st.ys
 have HZl : Hid (∀ k,Z k->k < w.heap.size):=h.lz
 have HJl : Hid (j < w.heap.size/\5<=j):=⟨h.jlt,h.j5⟩
 have HSt : Hid (Sto Z Y W s j d mv n D J S):=h.below HB.out
 have HBx : Hid (∀ X : World,X.heap[w.heap.size]? = some (.cells #[.pointer (some ⟨s,0,none⟩)] 33 (0,0))->X.heap[w.heap.size + 1]? = some (.cells #[.bool del,.int .i64 node,.int .i64 count,.string k,.slice av lv cv,.string v] 111 (0,0)) ->
   X.cell? ⟨w.heap.size,0,none⟩ = some (.pointer (some ⟨s,0,none⟩))/\X.cell? ⟨w.heap.size + 1,0,none⟩ = some (.bool del)/\X.cell? ⟨w.heap.size + 1,1,none⟩ = some (.int .i64 node)/\X.cell? ⟨w.heap.size + 1,2,none⟩ = some (.int .i64 count)/\X.cell? ⟨w.heap.size + 1,3,none⟩ = some (.string k)/\X.cell? ⟨w.heap.size + 1,4,none⟩ = some (.slice av lv cv)/\X.cell? ⟨w.heap.size + 1,5,none⟩ = some (.string v)):=by
  intro X h1 h2
  have hcell : ∀ o,X.cell? ⟨w.heap.size + 1,o,none⟩ = #[Value.bool del,.int .i64 node,.int .i64 count,.string k,.slice av lv cv,.string v][o]?:=fun o=>by rw [cell_of_row _ _ _ _ _ _ h2]
  exact ⟨by rw [cell_of_row _ _ _ _ _ _ h1];rfl,(hcell 0).trans rfl,(hcell 1).trans rfl,(hcell 2).trans rfl,(hcell 3).trans rfl,(hcell 4).trans rfl,(hcell 5).trans rfl⟩
 have HO : Hid (∀ X,Below W.heap.size W X->Calls Tryz.prog 91 #[.pointer (some ⟨s,0,none⟩),.agg #[.bool del,.int .i64 node,.int .i64 count,.string k,.slice av lv cv,.string v]] X fun e w'=>SetF (outF (S.M k) ⟨del,node,count,k,c,v⟩) X e w') :=
  fun X hX=>outcome_any Y s _ _ mv n S ⟨del,node,count,k,c,v⟩ (.slice av lv cv) X (HSt.out.st.below hX) ((hrd.below HB.out).below hX) (by show k.size<=maxLen;unfold maxLen;omega)
 obtain ⟨q,hq⟩ : ∃ q,outF (S.M k) ⟨del,node,count,k,c,v⟩ = q:=⟨_,rfl⟩
 obtain ⟨E,hEE⟩ : ∃ E,S.M k = E:=⟨_,rfl⟩
 have HR : Hid (doF D J S ⟨del,node,count,k,c,v⟩ = doG D J S ⟨del,node,count,k,c,v⟩ q):=by
  show _ = _
  rw [<- hq];rfl
 obtain ⟨R,hR⟩ : ∃ R,doF D J S ⟨del,node,count,k,c,v⟩ = R:=⟨_,rfl⟩
 rw [hq] at HO
 rw [hR] at HR ⊢
 have hmf : ∀ (fn : Fn) (first cap : Array Value) (w : World),(Instr.makeFunc fn first cap).run Tryz.prog w = .ok (.func fn first cap) w:=fun _ _ _ _=>rfl
 obtain ⟨y0,y1,y2,y3,y4,y5,y6⟩:=HBx.out W HA.out HM.out
 clear hq hR h hc
 unfold mtV
 simp only
 go_enter_defers Tryz.func50,Tryz.ntmps50
 go_upto_region 1 with (fail)
 clear hW
 go_wp2_with fail
 refine (HO.out _ (Below.refl _ _)).mono ?_
 intro e w2 hset
 obtain ⟨a1,l1,p1,a2,l2,p2,rfl,hv2,hb2,hl2⟩:=hset.set Y
 obtain ⟨W2,hW2,HB2,HS2⟩ : ∃ W2,w2.alloc (.cells #[.slice a1 l1 p1,.slice a2 l2 p2] 117) = W2/\Hid (Below W.heap.size W W2)/\Hid (W2.heap[w2.heap.size]? = some (.cells #[.slice a1 l1 p1,.slice a2 l2 p2] 117 (0,0))) :=
  ⟨_,rfl,belowA hb2,heap_alloc_new w2 _⟩
 have HV2 : Hid (SetIn (Yn Y W.heap.size w2.heap.size) W2 (.agg #[.slice a1 l1 p1,.slice a2 l2 p2]) ⟨q.1,q.2.1⟩):=by rw [<- hW2];exact hv2.below (belowA (Below.refl _ _))
 have HB20 : Hid (Below W.heap.size W w2):=hb2
 clear hv2 hset hb2 HO y0 y1 y2 y3 y4 y5 y6
 by_cases hq0 : q.2.2 = 0
 ·rw [hq0]
  obtain ⟨y0,y1,y2,y3,y4,y5,y6⟩:=HBx.out W2 (heap_later HB2.out HA.out) (heap_later HB2.out HM.out)
  have HSt2 : Hid (Sto Z Y W2 s j d mv n D J S):=HSt.out.below HB2.out
  have c0 : W2.cell? ⟨s,0,none⟩ = some (.pointer (some ⟨d,0,none⟩)):=(HSt2.out.st.cell 0).trans rfl
  have HL:=Left_any Z d D W2 HSt2.out.side.dk hwf.ok
  go_upto_region 4 with (fail)
  clear hW2
  go_wp2_with fail
  refine HL.mono ?_
  rintro e w3 ⟨rfl,hb3⟩
  have HB3 : Hid (Below W.heap.size W w3):=belowN HB2.out hb3
  have HS3 : Hid (w3.heap[w2.heap.size]? = some (.cells #[.slice a1 l1 p1,.slice a2 l2 p2] 117 (0,0))):=heap_later hb3 HS2.out
  have HV3 : Hid (SetIn (Yn Y W.heap.size w2.heap.size) w3 (.agg #[.slice a1 l1 p1,.slice a2 l2 p2]) ⟨q.1,q.2.1⟩):=HV2.out.below hb3
  clear hb3 HV2 HS2 HB2 HSt2 c0 y0 y1 y2 y3 y4 y5 y6
  by_cases hcap : D.cap - D.bytes < 4000
  ·have HF : Hid (R = (6,D,J,S)):=by show _ = _;rw [HR.out];unfold doG;rw [if_neg (fun hh=>hh hq0),if_pos hcap]
   clear HR
   go_wp2
   exact ⟨_,results_tmp rfl _ _ _,by rw [HF.out];rfl,by rw [HF.out];exact StoX.below (belowN HB.out HB3.out) (StoX.refl (HSt.out.below HB3.out) (Below.refl _ _) (by omega))⟩
  ·obtain ⟨T,hT,hSet,_⟩:=(HSt.out.st.below HB3.out).tab.get k
   rw [hEE] at hSet
   obtain ⟨uc,ul,hu,o1,o2,z1,z2⟩:=hSet.ex
   obtain ⟨a3,q3,rfl⟩:=own_shape o1
   obtain ⟨a4,q4,rfl⟩:=own_shape o2
   have c5 : w3.cell? ⟨s,5,none⟩ = some mv:=((HSt.out.below HB3.out).st.cell 5).trans rfl
   obtain ⟨W3,hW3,f3,z3,HB3a⟩ : ∃ W3,w3.alloc (.cells #[.bool false] 4) = W3/\W3.cell? ⟨w3.heap.size,0,none⟩ = some (.bool false)/\W3.frozen? ⟨w3.heap.size,0,none⟩ = false/\Hid (Below w3.heap.size w3 W3/\W3.heap[w3.heap.size]? = some (.cells #[.bool false] 4 (0,0))) :=
    ⟨_,rfl,by rw [cell_of_row _ _ _ _ _ _ (heap_alloc_new w3 _)];rfl,frozen_of_row _ _ _ _ _ (heap_alloc_new w3 _),belowA (Below.refl _ _),heap_alloc_new w3 _⟩
   obtain ⟨W4,hW4,HB4,HT4⟩ : ∃ W4,W3.setCell ⟨w3.heap.size,0,none⟩ (.bool false) = W4/\Hid (Below w3.heap.size w3 W4)/\Hid (W4.heap[w3.heap.size]? = some (.cells #[.bool false] 4 (0,0))) :=
    ⟨_,rfl,HB3a.out.1.setCell (Nat.le_refl _) _,by rw [heap_setCell_self HB3a.out.2];rfl⟩
   have HE4 : Hid (SetIn Y w3 (.agg #[.slice a3 E.C.length q3,.slice a4 E.L.length q4]) E):=⟨_,_,rfl,o1,o2,z1,z2⟩
   have HG : Hid (∀ X,Below w3.heap.size w3 X->Calls Tryz.prog 55 #[.pointer (some ⟨s,5,none⟩),.string k] X fun e w'=>(∃ b,e = .returned (.tuple #[.agg #[.slice a3 E.C.length q3,.slice a4 E.L.length q4],.bool b]))/\Below X.heap.size X w'):=fun X hX=>by
    have:=tGet_any s 5 mv n T k X (cell_later hX c5) (hT.below hX) (by unfold maxLen;omega)
    rw [hu] at this
    exact this.mono fun e w' ⟨he,hb⟩=>⟨⟨_,he⟩,hb⟩
   have hB34 : Below W4.heap.size W4 W4:=Below.refl _ _
   have HCx : Hid (∀ X,Below W4.heap.size W4 X->X.cell? ⟨w.heap.size,0,none⟩ = some (.pointer (some ⟨s,0,none⟩))/\X.cell? ⟨w.heap.size + 1,3,none⟩ = some (.string k)):=fun X hX=>by
    have hb : Below W.heap.size W X:=belowN HB3.out (belowN HB4.out hX)
    obtain ⟨y0,y1,y2,y3,y4,y5,y6⟩:=HBx.out X (heap_later hb HA.out) (heap_later hb HM.out)
    exact ⟨y0,y4⟩
   obtain ⟨x0,x3⟩:=HCx.out W4 hB34
   clear hT hSet hu o1 o2 z1 z2 c5
   go_upto_region 7 with (fail)
   clear hW3 hW4 f3 z3 HB3a
   go_cut [8] from 8 to 33 (fun v8 wx=>∃ g,v8 = .pointer (some ⟨g,0,none⟩)/\W4.heap.size<=g/\wx.heap[g]? = some (.cells #[.slice a3 E.C.length q3,.slice a4 E.L.length q4] 117 (0,0))/\Below W4.heap.size W4 wx)
   case first =>
    go_region_held3 (fun w'=>w'.cell? ⟨w.heap.size,0,none⟩ = some (.pointer (some ⟨s,0,none⟩))/\w'.cell? ⟨w.heap.size + 1,3,none⟩ = some (.string k))
     (first | exact HCx.out _ (by repeat (first | assumption | exact Below.refl _ _ | refine Below.drew ?_ | refine belowA ?_ | refine Below.setCell ?_ (by exact Nat.le_refl _) _)))
     (first
      | ((go_at_call 55;refine (HG.out _ (by refine belowN HB4.out ?_;repeat (first | assumption | exact Below.refl _ _ | refine Below.drew ?_ | refine belowA ?_ | refine Below.setCell ?_ (by exact Nat.le_refl _) _))).mono ?_;rintro e w5 ⟨⟨b,rfl⟩,hb5⟩;have hb6:=belowN (a:=W4) (by repeat (first | assumption | exact Below.refl _ _ | refine Below.drew ?_ | refine belowA ?_ | refine Below.setCell ?_ (by exact Nat.le_refl _) _)) hb5;have zz:=HCx.out w5 hb6;(first | (have r1:=rowD hb5;have r2:=row_c0 r1;have r3:=row_c1 r1;have r4:=row_fz r1) | skip))))
    ·go_wp2_with fail
     go_meet
     exact ⟨w5.heap.size,rfl,hb6.size,heap_alloc_new w5 _,belowA hb6⟩
    ·go_wp2_with fail
     go_meet
     exact ⟨W4.heap.size,rfl,Nat.le_refl _,by rw [heap_setCell_self (heap_setCell_self r1 0 _) 1 _];rfl,(hb6.setCell (Nat.le_refl _) _).setCell (Nat.le_refl _) _⟩
   case rest =>
    obtain ⟨g,rfl,hgl,hg,hbx⟩:=hcut
    have hb3c : Below w3.heap.size w3 wc:=belowN HB4.out hbx
    have hbw : Below W.heap.size W wc:=belowN HB3.out hb3c
    have hlt : g < wc.heap.size:=(Array.getElem?_eq_some_iff.1 hg).1
    have HBo : Hid (DoBx wc s w.heap.size w2.heap.size w3.heap.size g #[.bool del,.int .i64 node,.int .i64 count,.string k,.slice av lv cv,.string v] #[.slice a1 l1 p1,.slice a2 l2 p2] #[.slice a3 E.C.length q3,.slice a4 E.L.length q4] false) :=
     ⟨heap_later hbw HA.out,heap_later hbw HM.out,heap_later hb3c HS3.out,heap_later hbx HT4.out,hg⟩
    have HSz : Hid (w.heap.size + 2<=W.heap.size/\W.heap.size<=w2.heap.size/\w2.heap.size < w3.heap.size/\w3.heap.size < g/\g < wc.heap.size) :=
     ⟨by omega,HB20.out.size,(Array.getElem?_eq_some_iff.1 HS3.out).1,Nat.lt_of_lt_of_le (Array.getElem?_eq_some_iff.1 HT4.out).1 hgl,hlt⟩
    have HS1 : Hid (Sto Z (Yn Y W.heap.size w2.heap.size) wc s j d mv n D J S):=HSt.out.own (below_tr hbw Y) ((HSt.out.st.below hbw).zone (fun k hk=>.inl hk) (fun k hk=>by
     have:=HSz.out
     rcases hk with hk | hk
     ·exact (HSt.out.st.below hbw).lt k hk
     ·omega)) (fun k hk=>hk.imp (fun h=>h) (fun h=>h.1))
    have HEc : Hid (SetIn (Yn Y W.heap.size w2.heap.size) wc (.agg #[.slice a3 E.C.length q3,.slice a4 E.L.length q4]) E):=(HE4.out.below hb3c).mono fun k hk=>.inl hk
    have HVc : Hid (SetIn (Yn Y W.heap.size w2.heap.size) wc (.agg #[.slice a1 l1 p1,.slice a2 l2 p2]) ⟨q.1,q.2.1⟩):=HV3.out.below hb3c
    have HRc : Hid (Rd wc (.slice av lv cv) c):=(hrd.below HB.out).below hbw
    have HK:=keep_all _ s _ _ mv n S k _ ⟨q.1,q.2.1⟩ count wc HS1.out.st (by unfold maxLen;omega) (by omega) HVc.out hl2
    have HBc : Hid (Below w.heap.size w wc):=belowN HB.out hbw
    have z0 : wc.cell? ⟨w.heap.size,0,none⟩ = some (.pointer (some ⟨s,0,none⟩)):=by rw [cell_of_row _ _ _ _ _ _ HBo.out.a];rfl
    obtain ⟨_,m0,m1,m2,m3,m4,m5⟩:=HBx.out wc HBo.out.a HBo.out.m
    have u0:=row_c0 HBo.out.s1
    have u1:=row_c1 HBo.out.s1
    clear hb3c hbw hlt hgl hg hbx hB34 x0 x3 HCx HG HE4 HT4 HB4 HV3 HS3 HB20
    go_upto_region 10 with (first | exact hmf)
    refine HK.mono ?_
    rintro e w5 ⟨rfl,⟨mv',h5⟩,t5,r5⟩
    have HS2 : Hid (Sto Z (Yn (Yn Y W.heap.size w2.heap.size) wc.heap.size w5.heap.size) w5 s j d mv' (n + 1) D J { S with M:=keepM S.M k ⟨q.1,q.2.1⟩,cnt:=count }):=HS1.out.own t5 h5 (fun k hk=>hk.imp (fun h=>h) (fun h=>h.1))
    have HB5 : Hid (DoBx w5 s w.heap.size w2.heap.size w3.heap.size g #[.bool del,.int .i64 node,.int .i64 count,.string k,.slice av lv cv,.string v] #[.slice a1 l1 p1,.slice a2 l2 p2] #[.slice a3 E.C.length q3,.slice a4 E.L.length q4] false):=HBo.out.tr t5 (fun i hi hy=>by
     have h1:=HSz.out
     rcases hy with hy | hy
     ·have:=HYl.out i hy
      omega
     ·omega)
    have HE5 : Hid (SetIn (Yn (Yn Y W.heap.size w2.heap.size) wc.heap.size w5.heap.size) w5 (.agg #[.slice a3 E.C.length q3,.slice a4 E.L.length q4]) E):=(HEc.out.rows r5).mono fun i hi=>.inl hi
    have HR5 : Hid (Rd w5 (.slice av lv cv) c):=HRc.out.tr t5 (fun i hi hy=>by
     have h1:=HSz.out
     have h2:=hrz i hi
     rcases hy with hy | hy
     ·exact h2.1 hy
     ·omega)
    have HT5 : Hid (Tr (Zs Z Y j) w w5):=(below_tr HBc.out (Zs Z Y j)).trans' t5 (fun i hi hy=>by
     have h1:=HSz.out
     rcases hy with hy | hy
     ·exact .inr (.inl hy)
     ·omega)
    have HZ5 : Hid (wc.heap.size<=w5.heap.size):=t5.size
    have HW:=swrite_any Z _ s j d mv' (n + 1) D J { S with M:=keepM S.M k ⟨q.1,q.2.1⟩,cnt:=count } ⟨del,node,count,k,c,v⟩ (.slice av lv cv) w5 HS2.out hwf hwf2 hbu hjn hjs hjr HR5.out hk hv hc0 (by have:=HC0.out;show S.held<=count;omega) (by have:=HC0.out;show count<=_;omega)
    have HRR : Hid (R = doW (writeF D J { S with M:=keepM S.M k ⟨q.1,q.2.1⟩,cnt:=count } (encM ⟨del,node,count,k,c,v⟩)) E ⟨del,node,count,k,c,v⟩):=by
     show _ = _
     rw [HR.out]
     unfold doG
     rw [if_neg (fun hh=>hh hq0),if_neg (Int.not_lt.2 hcap),<- hEE]
    obtain ⟨⟨b,D1,J1,S2⟩,hr⟩ : ∃ r,writeF D J { S with M:=keepM S.M k ⟨q.1,q.2.1⟩,cnt:=count } (encM ⟨del,node,count,k,c,v⟩) = r:=⟨_,rfl⟩
    rw [hr] at HW HRR
    simp only at HW HRR
    unfold mtV at HW
    simp only at HW
    clear hr HR t5 h5 r5 HK z0 m0 m1 m2 m3 m4 m5 u0 u1 HS1 HBo HVc HEc HRc HR5
    have z0 : w5.cell? ⟨w.heap.size,0,none⟩ = some (.pointer (some ⟨s,0,none⟩)):=by rw [cell_of_row _ _ _ _ _ _ HB5.out.a];rfl
    obtain ⟨_,m0,m1,m2,m3,m4,m5⟩:=HBx.out w5 HB5.out.a HB5.out.m
    go_wp2_with fail
    refine HW.mono ?_
    rintro e w6 ⟨rfl,⟨Z6,h6,hz6⟩,t6⟩
    have HB6 : Hid (DoBx w6 s w.heap.size w2.heap.size w3.heap.size g #[.bool del,.int .i64 node,.int .i64 count,.string k,.slice av lv cv,.string v] #[.slice a1 l1 p1,.slice a2 l2 p2] #[.slice a3 E.C.length q3,.slice a4 E.L.length q4] false):=HB5.out.tr t6 (fun i hi hy=>by
     have h1:=HSz.out
     have h3:=HYl.out s HYs.out
     rcases hy with hy | hy | hy
     ·have:=HZl.out i hy
      omega
     ·have:=HJl.out
      omega
     ·omega)
    have f0 : w6.cell? ⟨w3.heap.size,0,none⟩ = some (.bool false):=by rw [cell_of_row _ _ _ _ _ _ HB6.out.t];rfl
    have f1 : w6.frozen? ⟨w3.heap.size,0,none⟩ = false:=frozen_of_row _ _ _ _ _ HB6.out.t
    obtain ⟨W7,hW7,HB7,HS7,HE7,HT7⟩ : ∃ W7,w6.setCell ⟨w3.heap.size,0,none⟩ (.bool b) = W7/\Hid (DoBx W7 s w.heap.size w2.heap.size w3.heap.size g #[.bool del,.int .i64 node,.int .i64 count,.string k,.slice av lv cv,.string v] #[.slice a1 l1 p1,.slice a2 l2 p2] #[.slice a3 E.C.length q3,.slice a4 E.L.length q4] b) /\
      Hid (Sto Z6 (Yn (Yn Y W.heap.size w2.heap.size) wc.heap.size w5.heap.size) W7 s j d mv' (n + 1) D1 J1 S2)/\Hid (SetIn (Yn (Yn Y W.heap.size w2.heap.size) wc.heap.size w5.heap.size) W7 (.agg #[.slice a3 E.C.length q3,.slice a4 E.L.length q4]) E)/\Hid (Tr (Zs Z Y j) w W7):=by
     have h1:=HSz.out
     have h3:=HYl.out s HYs.out
     have h4:=HJl.out
     have h5:=HZ5.out
     have tt : Tr (One w3.heap.size) w6 (w6.setCell ⟨w3.heap.size,0,none⟩ (.bool b)):=(Tr.refl _ w6).set1 0 _
     have hfar : ∀ i,One w3.heap.size i->¬ Z6 i/\¬ (Yn (Yn Y W.heap.size w2.heap.size) wc.heap.size w5.heap.size) i/\i ≠ j/\5<=i:=by
      rintro i (rfl : i = w3.heap.size)
      refine ⟨fun hz=>?_,fun hy=>?_,by omega,by have:=HS2.out.j5;omega⟩
      ·rcases hz6 _ hz with hz | hz
       ·have:=HZl.out _ hz;omega
       ·omega
      ·rcases hy with (hy | hy) | hy
       ·have:=HYl.out _ hy;omega
       ·omega
       ·omega
     refine ⟨_,rfl,HB6.out.set b (by omega) (by omega) (by omega) (by omega),h6.tr tt hfar,(HE5.out.zt HS2.out t6).tr tt fun i hi hx=>(hfar i hx).2.1 hi,(HT5.out.trans' t6 fun i hi hy=>?_).trans' tt fun i hi (hx : i = w3.heap.size)=>by omega⟩
     rcases hy with hy | hy | hy
     ·exact .inl hy
     ·exact .inr (.inr hy)
     ·exact .inr (.inl (hy ▸ HYs.out))
    have HZ6 : Hid (∀ i,Z6 i->Z i\/w.heap.size<=i):=fun i hi=>(hz6 i hi).imp (fun h=>h) (fun h=>by have:=HSz.out;have:=HZ5.out;omega)
    have g0 : W7.cell? ⟨w3.heap.size,0,none⟩ = some (.bool b):=by rw [cell_of_row _ _ _ _ _ _ HB7.out.t];rfl
    clear h6 t6 hz6 HB6 HB5 HW z0 m0 m1 m2 m3 m4 m5 HE5 HS2
    have HY2 : Hid (∀ i,(Yn (Yn Y W.heap.size w2.heap.size) wc.heap.size w5.heap.size) i->Y i\/w.heap.size<=i):=fun i hi=>by
     have h1:=HSz.out
     rcases hi with (hi | hi) | hi
     ·exact .inl hi
     ·exact .inr (by omega)
     ·exact .inr (by omega)
    cases b
    ·have HF : Hid (R = (7,D1,J1,{ S2 with M:=keepM S2.M k E,cnt:=count - 1 })):=HRR
     go_upto_region 11 with (fail)
     clear hW7 f0 f1 HRR
     go_wp2
     refine leaves_cons (f:=92) (args:=#[.pointer (some ⟨w3.heap.size,0,none⟩),.pointer (some ⟨w.heap.size,0,none⟩),.pointer (some ⟨w.heap.size + 1,0,none⟩),.pointer (some ⟨g,0,none⟩)]) (by simp) (by simp [go_sem]) ?_
     have zz : W7.cell? ⟨w.heap.size,0,none⟩ = some (.pointer (some ⟨s,0,none⟩)):=by rw [cell_of_row _ _ _ _ _ _ HB7.out.a];rfl
     obtain ⟨_,m0,m1,m2,m3,m4,m5⟩:=HBx.out W7 HB7.out.a HB7.out.m
     refine (doEnd_no _ s _ _ mv' (n + 1) S2 w3.heap.size w.heap.size (w.heap.size + 1) g .returning W7 a3 a4 _ q3 _ q4 E k count HS7.out.st g0 zz m3 m2 HB7.out.s3 HE7.out (by rw [<- hEE];exact hE) (by unfold maxLen;omega) (by omega) (by have:=HC0.out;omega) (by have:=HC0.out;omega)).mono ?_
     rintro e u' w'' ⟨rfl,rfl,⟨mv2,h8⟩,t8⟩
     refine ⟨_,results_tmp rfl _ _ _,by rw [HF.out];rfl,?_⟩
     rw [HF.out]
     have hw7 : w.heap.size<=W7.heap.size:=HT7.out.size
     refine ⟨⟨Z6,_,mv2,HS7.out.own t8 h8 (fun i hi=>hi.imp (fun h=>h) fun h=>h.1),HZ6.out,fun i hi=>?_⟩,HT7.out.trans' t8 fun i hi hy=>?_⟩
     ·rcases hi with hi | hi
      ·exact HY2.out i hi
      ·exact .inr (by omega)
     ·rcases HY2.out i hy with h | h
      ·exact .inr (.inl h)
      ·omega
    ·have HF : Hid (R = (0,D1,J1,S2)):=HRR
     go_upto_region 11 with (fail)
     clear hW7 f0 f1 HRR
     go_wp2
     refine leaves_cons (f:=92) (args:=#[.pointer (some ⟨w3.heap.size,0,none⟩),.pointer (some ⟨w.heap.size,0,none⟩),.pointer (some ⟨w.heap.size + 1,0,none⟩),.pointer (some ⟨g,0,none⟩)]) (by simp) (by simp [go_sem]) ?_
     refine (doEnd_yes _ _ _ _ .returning W7 g0).mono ?_
     rintro e u' w'' ⟨rfl,rfl,rfl⟩
     refine ⟨_,results_tmp rfl _ _ _,by rw [HF.out];rfl,?_⟩
     rw [HF.out]
     exact ⟨⟨Z6,_,mv',HS7.out.more (by omega),HZ6.out,HY2.out⟩,HT7.out⟩
 ·have hq0b : (q.2.2 != 0) = true:=by simp [hq0]
  have HF : Hid (R = (q.2.2,D,J,S)):=by show _ = _;rw [HR.out];unfold doG;rw [if_pos hq0]
  clear HR
  go_wp2
  exact ⟨_,results_tmp rfl _ _ _,by rw [HF.out];rfl,by rw [HF.out];exact StoX.below (belowN HB.out HB2.out) (StoX.refl (HSt.out.below HB2.out) (Below.refl _ _) (by omega))⟩
end Go.Proofs.YtilkdeghknjjhaaGreatDoor
