/- A part of the proof. -/
import Derived.Test.YtilkdeghknjjhaaGreatDoorPart08
set_option maxRecDepth 20000
set_option maxHeartbeats 3200000
set_option linter.unusedVariables false
namespace Go.Proofs.YtilkdeghknjjhaaGreatDoor
open Go.RowKit
variable {Z : Nat->Prop} {a w w' : World} {B : Nat}
structure Tr (Z : Nat->Prop) (w w' : World) : Prop where
 os : w'.os = w.os
 tape : w'.tape = w.tape
 output : w'.output = w.output
 size : w.heap.size<=w'.heap.size
 block : ∀ k,k < w.heap.size->¬ Z k->w'.heap[k]? = w.heap[k]?
def Opn (Z : Nat->Prop) (w : World) : Prop:=∀ k,w.heap.size<=k->Z k
theorem Tr.refl (Z : Nat->Prop) (w : World) : Tr Z w w:=⟨rfl,rfl,rfl,Nat.le_refl _,fun _ _ _=>rfl⟩
theorem Tr.trans {b c : World} (h : Tr Z a b) (k : Tr Z b c) : Tr Z a c :=
 ⟨k.os.trans h.os,k.tape.trans h.tape,k.output.trans h.output,Nat.le_trans h.size k.size,fun i hi hz=>(k.block i (Nat.lt_of_lt_of_le hi h.size) hz).trans (h.block i hi hz)⟩
theorem Tr.mono {Y : Nat->Prop} (h : Tr Z w w') (hs : ∀ k,k < w.heap.size->Z k->Y k) : Tr Y w w' :=
 ⟨h.os,h.tape,h.output,h.size,fun k hk hz=>h.block k hk (fun hh=>hz (hs k hk hh))⟩
theorem below_tr (h : Below w.heap.size w w') (Z : Nat->Prop) : Tr Z w w':=⟨h.os,h.tape,h.output,h.size,fun k hk _=>h.block k hk⟩
theorem Tr.below (h : Tr Z w w') (hB : B<=w.heap.size) (hz : ∀ k,k < B->¬ Z k) : Below B w w' :=
 ⟨h.os,h.tape,h.output,h.size,fun k hk=>h.block k (by omega) (hz k hk)⟩
theorem Opn.tr (h : Opn Z w) (t : Tr Z w w') : Opn Z w':=fun k hk=>h k (Nat.le_trans t.size hk)
theorem Opn.size (h : Opn Z w) (t : w.heap.size<=w'.heap.size) : Opn Z w':=fun k hk=>h k (Nat.le_trans t hk)
def Zn (Z : Nat->Prop) (n : Nat) : Nat->Prop:=fun k=>Z k\/n<=k
theorem Zn.opn (Z : Nat->Prop) (w : World) : Opn (Zn Z w.heap.size) w:=fun _ h=>.inr h
theorem Tr.setCell (h : Tr Z a w) {p : Addr} (hp : Z p.block) (u : Value) : Tr Z a (w.setCell p u) :=
 h.trans ⟨rfl,rfl,rfl,by simp [World.setCell],fun k hk hz=>Below.heap_setCell _ _ _ _ (fun e=>hz (e ▸ hp))⟩
theorem Tr.alloc (h : Tr Z a w) (o : Obj) : Tr Z a (w.alloc o) :=
 h.trans ⟨rfl,rfl,rfl,by simp,fun k hk _=>Below.heap_alloc _ _ _ (by omega)⟩
theorem Tr.drew (h : Tr Z a w) : Tr Z a w.drew:=⟨h.os,h.tape,h.output,h.size,h.block⟩
theorem Tr.drewN (h : Tr Z a w) (n : Nat) : Tr Z a (w.drewN n):=⟨h.os,h.tape,h.output,h.size,h.block⟩
theorem Tr.grown {row : Option Nat} (h : Tr Z a w) (hg : w.grownBy w' row) (hr : ∀ k,row = some k->k < w.heap.size->Z k) : Tr Z a w' :=
 h.trans ⟨hg.os,hg.tape,hg.output,hg.size,fun k hk hz=>hg.block k hk (fun e=>hz (hr k e.symm hk))⟩
theorem Tr.heap (h : Tr Z w w') {k : Nat} {o : Obj} (hk : w.heap[k]? = some o) (hz : ¬ Z k) : w'.heap[k]? = some o :=
 (h.block k (Array.getElem?_eq_some_iff.1 hk).1 hz).trans hk
def InZ (Z : Nat->Prop) (v : Value) : Prop:=∀ k,v.ownBlock = some k->Z k
theorem own_tr {n : Nat} {e : TypeId} {size : Nat} {v : Value} {xs : List Value} (h : w.ownsRow B e size v n xs) (t : Tr Z w w') (hz : InZ (fun k=>¬ Z k) v) : w'.ownsRow B e size v n xs:=by
 refine ⟨h.1,?_⟩
 rcases h.2 with hn | ⟨g,cap,cur,rfl,hb,hgg,rest⟩
 ·exact .inl hn
 ·exact .inr ⟨g,cap,cur,rfl,hb,t.heap hgg (hz g rfl),rest⟩
end Go.Proofs.YtilkdeghknjjhaaGreatDoor
namespace Go.Proofs.YtilkdeghknjjhaaGreatDoor
open Go.RowKit
variable {w : World} {v : Value}
structure Nm where
 n : ByteArray
 f : Nat
def Nm.z : Nm:=⟨ByteArray.empty,0⟩
def nm (l : List Nm) (i : Nat) : Nm:=l.getD i Nm.z
theorem nm_get (l : List Nm) (i : Nat) (h : i < l.length) : nm l i = l[i]:=by simp [nm,List.getD,List.getElem?_eq_getElem h]
def cellsN : List Nm->List Value
 | []=>[]
 | e :: r=>.string e.n :: .int .i64 e.f :: cellsN r
theorem cellsN_at : ∀ (l : List Nm) (j : Nat),j < l.length->(cellsN l)[j * 2]? = some (.string (nm l j).n)/\(cellsN l)[j * 2 + 1]? = some (.int .i64 (nm l j).f)
 | [],j,h=>absurd h (by simp)
 | e :: r,0,_=>by simp [cellsN,nm]
 | e :: r,j + 1,h=>by
  have:=cellsN_at r j (by simpa using h)
  rw [show (j + 1) * 2 = j * 2 + 1 + 1 by omega]
  simpa [cellsN,nm] using this
theorem cellsN_append : ∀ (l m : List Nm),cellsN (l ++ m) = cellsN l ++ cellsN m
 | [],m=>rfl
 | x :: r,m=>by simp [cellsN,cellsN_append r m]
theorem cellsN_snoc (l : List Nm) (e : Nm) : cellsN (l ++ [e]) = cellsN l ++ [.string e.n,.int .i64 e.f]:=by rw [cellsN_append];rfl
theorem one_cellsN : ∀ (l : List Nm),∀ u ∈ cellsN l,u.oneCell' = true
 | [],u,h=>by simp [cellsN] at h
 | e :: r,u,h=>by
  simp only [cellsN,List.mem_cons] at h
  rcases h with h | h | h
  ·subst h;rfl
  ·subst h;rfl
  ·exact one_cellsN r u h
theorem own_cells {B e size n : Nat} {xs : List Value} (h : w.ownsRow B e size v n xs) : ∃ a cap,v = .slice a n cap/\n<=cap/\cap<=maxLen/\(0 < n->∃ g,a = some ⟨g,0,none⟩/\g < w.heap.size/\∀ j u,xs[j]? = some u->w.cell? ⟨g,j,none⟩ = some u):=by
 obtain ⟨h1,h2⟩:=h
 rcases h2 with ⟨hv,h0⟩ | ⟨g,cap,cur,hv,hg,hh,hle,hm,hsz,htk⟩
 ·exact ⟨none,0,by rw [hv,h0],by omega,by omega,fun hh=>by omega⟩
 ·refine ⟨_,cap,hv,hle,hm,fun h0=>⟨g,rfl,(Array.getElem?_eq_some_iff.1 hh).1,fun j u hj=>?_⟩⟩
  have hj1 : j < xs.length:=(List.getElem?_eq_some_iff.1 hj).1
  rw [<- htk,List.getElem?_take_of_lt (by omega)] at hj
  simp only [World.cell?,hh]
  simpa using hj
abbrev RdN (w : World) (v : Value) (l : List Nm) : Prop:=w.ownsRow 0 102 2 v l.length (cellsN l)
theorem RdN.cells {l : List Nm} (h : RdN w v l) : ∃ a cap,v = .slice a l.length cap/\l.length<=cap/\cap<=maxLen/\(0 < l.length->∃ g,a = some ⟨g,0,none⟩/\∀ j,j < l.length->w.cell? ⟨g,j * 2,none⟩ = some (.string (nm l j).n)/\w.cell? ⟨g,j * 2 + 1,none⟩ = some (.int .i64 (nm l j).f)):=by
 obtain ⟨a,cap,hv,h1,h2,h3⟩:=own_cells h
 refine ⟨a,cap,hv,h1,h2,fun h0=>?_⟩
 obtain ⟨g,ha,_,hc⟩:=h3 h0
 exact ⟨g,ha,fun j hj=>⟨hc _ _ (cellsN_at l j hj).1,hc _ _ (cellsN_at l j hj).2⟩⟩
def bl (a b : ByteArray) : Bool:=Op.bytesLess a.toList b.toList
def fd (l : List Nm) (n : ByteArray) : Nat:=(l.takeWhile fun x=>bl x.n n).length
theorem fd_le (l : List Nm) (n : ByteArray) : fd l n<=l.length:=by
 unfold fd
 exact (List.takeWhile_sublist _).length_le
theorem takeWhile_len_lt {α : Type} (p : α->Bool) : ∀ (l : List α) (j : Nat) (h : j < (l.takeWhile p).length),∃ h2 : j < l.length,p l[j] = true
 | [],j,h=>by simp at h
 | x :: r,j,h=>by
  by_cases hp : p x = true
  ·rw [List.takeWhile_cons_of_pos hp] at h
   cases j with
   | zero=>exact ⟨by simp,hp⟩
   | succ j =>
    obtain ⟨h2,h3⟩:=takeWhile_len_lt p r j (by simpa using h)
    exact ⟨by simpa using h2,by simpa using h3⟩
  ·rw [List.takeWhile_cons_of_neg hp] at h
   simp at h
theorem takeWhile_len_at {α : Type} (p : α->Bool) : ∀ (l : List α) (h : (l.takeWhile p).length < l.length),p l[(l.takeWhile p).length] = false
 | [],h=>by simp at h
 | x :: r,h=>by
  by_cases hp : p x = true
  ·have e:=List.takeWhile_cons_of_pos (l:=r) hp
   have h' : (r.takeWhile p).length < r.length:=by rw [e] at h;simpa using h
   have ih:=takeWhile_len_at p r h'
   simp only [e,List.length_cons,List.getElem_cons_succ]
   exact ih
  ·have e:=List.takeWhile_cons_of_neg (l:=r) hp
   simp only [e,List.length_nil,List.getElem_cons_zero]
   simpa using hp
theorem fd_lt {l : List Nm} {n : ByteArray} {j : Nat} (h : j < fd l n) : bl (nm l j).n n = true:=by
 obtain ⟨h2,h3⟩:=takeWhile_len_lt _ l j h
 rw [nm_get l j h2]
 exact h3
theorem fd_at {l : List Nm} {n : ByteArray} (h : fd l n < l.length) : bl (nm l (fd l n)).n n = false:=by
 rw [nm_get l _ h]
 exact takeWhile_len_at _ l h
theorem fd_is {l : List Nm} {n : ByteArray} {k : Nat} (hk : k<=l.length) (h1 : ∀ j,j < k->bl (nm l j).n n = true) (h2 : k < l.length->bl (nm l k).n n = false) : fd l n = k:=by
 have hf:=fd_le l n
 rcases Nat.lt_trichotomy (fd l n) k with h | h | h
 ·have:=h1 _ h
  rw [fd_at (by omega)] at this
  exact absurd this (by simp)
 ·exact h
 ·have:=fd_lt h
  rw [h2 (by omega)] at this
  exact absurd this (by simp)
def there (l : List Nm) (n : ByteArray) : Bool:=decide (fd l n < l.length) && ((nm l (fd l n)).n.toList == n.toList)
theorem find_any (v : Value) (l : List Nm) (n : ByteArray) (w : World) (hrd : RdN w v l) (hl : l.length<=1000000000) :
  Calls Tryz.prog 70 #[v,.string n] w fun e w'=>e = .returned (.tuple #[.int .i64 (fd l n),.bool (there l n)])/\Below w.heap.size w w':=by
 obtain ⟨a,cap,rfl,hlc,hc,hA⟩:=hrd.cells
 have hl1 : (l.length : Int)<=1000000000:=by omega
 clear hlc hc
 go_enter Tryz.func70,Tryz.ntmps70
 go_wp2_with fail
 go_loopw [6] (fun i wr=>∃ k : Nat,k<=l.length/\i = .int .i64 k/\Hid (∀ j,j < k->bl (nm l j).n n = true)/\Below w.heap.size w wr) (fun i _=>l.length - (intOf i).toNat)
 case atStart=>exact ⟨0,Nat.zero_le _,rfl,fun j h=>absurd h (Nat.not_lt_zero j),Below.refl _ _⟩
 case round =>
  obtain ⟨k,hk,rfl,hj,hb⟩:=hrel
  by_cases hlt : k < l.length
  ·obtain ⟨g,rfl,hr⟩:=hA (by omega)
   have c0:=cell_later hb (hr k hlt).1
   have k1 : (k : Int) < (l.length : Int):=by omega
   have k0 : (0 : Int)<=(k : Int):=by omega
   by_cases hs : bl (nm l k).n n = true
   ·have hs' : Op.bytesLess (nm l k).n.toList n.toList = true:=hs
    clear hA hr
    go_wp2_with fail
    go_roundw
    case rel=>exact ⟨k + 1,by omega,by go_num,fun j h=>by by_cases e : j = k;(subst e;exact hs);exact hj j (by omega),hb⟩
    case measure=>simp [intOf];omega
   ·have hs' : Op.bytesLess (nm l k).n.toList n.toList = false:=by simpa [bl] using hs
    have hfd : fd l n = k:=fd_is hk hj (fun _=>by simpa using hs)
    have HT : Hid (there l n = ((nm l k).n.toList == n.toList)):=by show there l n = _;unfold there;rw [hfd];simp [hlt]
    have HF : Hid (fd l n = k):=hfd
    clear hA hr hfd
    go_wp2_with fail
    have hd : decide ((k : Int) < (l.length : Int)) = true:=by simpa using k1
    go_quiet (fail)
    go_wp2_with fail
    go_ret2
    exact ⟨by rw [HF.out,HT.out];rfl,below_drewN hb _⟩
  ·have k1 : ¬ (k : Int) < (l.length : Int):=by omega
   have hkl : k = l.length:=by omega
   have HF : Hid (fd l n = k):=fd_is hk hj (fun h=>absurd h hlt)
   have HT : Hid (there l n = false):=by show there l n = _;unfold there;rw [HF.out];simp [hlt]
   clear hA hkl
   go_wp2_with fail
   have hd : decide ((k : Int) < (l.length : Int)) = false:=by simpa using k1
   go_quiet (fail)
   go_wp2_with fail
   go_ret2
   exact ⟨by rw [HF.out,HT.out];rfl,below_drewN hb _⟩
end Go.Proofs.YtilkdeghknjjhaaGreatDoor
namespace Go.Proofs.YtilkdeghknjjhaaGreatDoor
open Go.RowKit
variable {w w' : World} {k p : Nat} {Z Y : Nat->Prop} {vf vn vs vt : Value}
structure Fl where
 d : ByteArray
 s : Nat
def Fl.z : Fl:=⟨ByteArray.empty,0⟩
def fl (l : List Fl) (i : Nat) : Fl:=l.getD i Fl.z
theorem fl_get (l : List Fl) (i : Nat) (h : i < l.length) : fl l i = l[i]:=by simp [fl,List.getD,List.getElem?_eq_getElem h]
def cellsF : List Fl->List Value
 | []=>[]
 | e :: r=>.string e.d :: .int .i64 e.s :: cellsF r
theorem cellsF_at : ∀ (l : List Fl) (j : Nat),j < l.length->(cellsF l)[j * 2]? = some (.string (fl l j).d)/\(cellsF l)[j * 2 + 1]? = some (.int .i64 (fl l j).s)
 | [],j,h=>absurd h (by simp)
 | e :: r,0,_=>by simp [cellsF,fl]
 | e :: r,j + 1,h=>by
  have:=cellsF_at r j (by simpa using h)
  rw [show (j + 1) * 2 = j * 2 + 1 + 1 by omega]
  simpa [cellsF,fl] using this
theorem cellsF_append : ∀ (l m : List Fl),cellsF (l ++ m) = cellsF l ++ cellsF m
 | [],m=>rfl
 | x :: r,m=>by simp [cellsF,cellsF_append r m]
theorem cellsF_snoc (l : List Fl) (e : Fl) : cellsF (l ++ [e]) = cellsF l ++ [.string e.d,.int .i64 e.s]:=by rw [cellsF_append];rfl
theorem one_cellsF : ∀ (l : List Fl),∀ u ∈ cellsF l,u.oneCell' = true
 | [],u,h=>by simp [cellsF] at h
 | e :: r,u,h=>by
  simp only [cellsF,List.mem_cons] at h
  rcases h with h | h | h
  ·subst h;rfl
  ·subst h;rfl
  ·exact one_cellsF r u h
theorem cellsF_set : ∀ (l : List Fl) (k : Nat) (e : Fl),k < l.length->((cellsF l).set (k * 2) (.string e.d)).set (k * 2 + 1) (.int .i64 e.s) = cellsF (l.set k e)
 | [],k,e,h=>absurd h (by simp)
 | x :: r,0,e,_=>by simp [cellsF]
 | x :: r,k + 1,e,h=>by
  have:=cellsF_set r k e (by simpa using h)
  rw [show (k + 1) * 2 = k * 2 + 1 + 1 by omega]
  simp only [cellsF,List.set_cons_succ,List.cons.injEq,true_and]
  exact this
structure Stp where
 k : Int
 fr : ByteArray
 «to» : ByteArray
 f : Nat
def cellsT : List Stp->List Value
 | []=>[]
 | e :: r=>.int .i64 e.k :: .string e.fr :: .string e.to :: .int .i64 e.f :: cellsT r
theorem cellsT_append : ∀ (l m : List Stp),cellsT (l ++ m) = cellsT l ++ cellsT m
 | [],m=>rfl
 | x :: r,m=>by simp [cellsT,cellsT_append r m]
theorem cellsT_snoc (l : List Stp) (e : Stp) : cellsT (l ++ [e]) = cellsT l ++ [.int .i64 e.k,.string e.fr,.string e.to,.int .i64 e.f]:=by rw [cellsT_append];rfl
theorem one_cellsT : ∀ (l : List Stp),∀ u ∈ cellsT l,u.oneCell' = true
 | [],u,h=>by simp [cellsT] at h
 | e :: r,u,h=>by
  simp only [cellsT,List.mem_cons] at h
  rcases h with h | h | h | h | h
  ·subst h;rfl
  ·subst h;rfl
  ·subst h;rfl
  ·subst h;rfl
  ·exact one_cellsT r u h
structure Dk where
 cap : Int
 files : List Fl
 now : List Nm
 safe : List Nm
 steps : List Stp
 wait : Int
 life : Int
 failed : Int
def Dk.row (D : Dk) (vf vn vs vt : Value) : Array Value:=#[.int .i64 D.cap,vf,vn,vs,vt,.int .i64 D.wait,.int .i64 D.life,.int .i64 D.failed]
structure DiskIn (Z : Nat->Prop) (w : World) (p : Nat) (D : Dk) (vf vn vs vt : Value) : Prop where
 zp : Z p
 hp : w.heap[p]? = some (.cells (D.row vf vn vs vt) 94 (0,0))
 rf : w.ownsRow 0 100 2 vf D.files.length (cellsF D.files)
 rn : RdN w vn D.now
 rs : RdN w vs D.safe
 rt : w.ownsRow 0 97 4 vt D.steps.length (cellsT D.steps)
 zf : InZ Z vf
 zn : InZ Z vn
 zs : InZ Z vs
 zt : InZ Z vt
def DiskAt (Z : Nat->Prop) (w : World) (p : Nat) (D : Dk) : Prop:=∃ vf vn vs vt,DiskIn Z w p D vf vn vs vt
theorem heap_setCell_self {c : Array Value} {e : TypeId} {fr : Nat × Nat} (h : w.heap[k]? = some (.cells c e fr)) (o : Nat) (v : Value) :
  (w.setCell ⟨k,o,none⟩ v).heap[k]? = some (.cells (c.setIfInBounds o v) e fr):=by
 simp [World.setCell,Array.getElem?_modify,h]
theorem own_setCell {B n o : Nat} {e t : TypeId} {size : Nat} {v u : Value} {xs : List Value} {old : Array Value} (h : w.ownsRow B e size v n xs) (hk : w.heap[k]? = some (.cells old t (0,0))) (hne : e ≠ t) : (w.setCell ⟨k,o,none⟩ u).ownsRow B e size v n xs:=by
 refine ⟨h.1,?_⟩
 rcases h.2 with hn | ⟨g,cap,cur,rfl,h1,h2,rest⟩
 ·exact .inl hn
 ·refine .inr ⟨g,cap,cur,rfl,h1,?_,rest⟩
  rw [Below.heap_setCell _ _ _ _ (fun hh : g = k=>by subst hh;rw [hk] at h2;simp at h2;exact hne h2.2.symm)]
  exact h2
theorem DiskIn.setCell {D D' : Dk} (h : DiskIn Z w p D vf vn vs vt) (o : Nat) (v : Value) (h1 : D'.files = D.files) (h2 : D'.now = D.now) (h3 : D'.safe = D.safe) (h4 : D'.steps = D.steps)
  (hr : (D.row vf vn vs vt).setIfInBounds o v = D'.row vf vn vs vt) : DiskIn Z (w.setCell ⟨p,o,none⟩ v) p D' vf vn vs vt :=
 ⟨h.zp,by rw [heap_setCell_self h.hp,hr],h1 ▸ own_setCell h.rf h.hp (by decide),by have:=own_setCell (o:=o) (u:=v) h.rn h.hp (by decide);rw [<- h2] at this;exact this,
  by have:=own_setCell (o:=o) (u:=v) h.rs h.hp (by decide);rw [<- h3] at this;exact this,h4 ▸ own_setCell h.rt h.hp (by decide),h.zf,h.zn,h.zs,h.zt⟩
theorem DiskIn.cell {D : Dk} (h : DiskIn Z w p D vf vn vs vt) (o : Nat) : w.cell? ⟨p,o,none⟩ = (D.row vf vn vs vt)[o]?:=by
 simp [World.cell?,h.hp]
theorem DiskIn.frozen {D : Dk} (h : DiskIn Z w p D vf vn vs vt) (o : Nat) : w.frozen? ⟨p,o,none⟩ = false:=frozen_of_row _ _ _ _ _ h.hp
theorem DiskIn.tr {D : Dk} (h : DiskIn Z w p D vf vn vs vt) (t : Tr Y w w') (hd : ∀ k,Z k->¬ Y k) : DiskIn Z w' p D vf vn vs vt :=
 ⟨h.zp,t.heap h.hp (hd _ h.zp),own_tr h.rf t (fun k hk=>hd k (h.zf k hk)),own_tr h.rn t (fun k hk=>hd k (h.zn k hk)),own_tr h.rs t (fun k hk=>hd k (h.zs k hk)),own_tr h.rt t (fun k hk=>hd k (h.zt k hk)),h.zf,h.zn,h.zs,h.zt⟩
theorem DiskIn.below {D : Dk} (h : DiskIn Z w p D vf vn vs vt) (t : Below w.heap.size w w') : DiskIn Z w' p D vf vn vs vt :=
 ⟨h.zp,heap_later t h.hp,own_below h.rf t,own_below h.rn t,own_below h.rs t,own_below h.rt t,h.zf,h.zn,h.zs,h.zt⟩
theorem DiskIn.mono {D : Dk} (h : DiskIn Z w p D vf vn vs vt) (hs : ∀ k,Z k->Y k) : DiskIn Y w p D vf vn vs vt :=
 ⟨hs _ h.zp,h.hp,h.rf,h.rn,h.rs,h.rt,fun k hk=>hs k (h.zf k hk),fun k hk=>hs k (h.zn k hk),fun k hk=>hs k (h.zs k hk),fun k hk=>hs k (h.zt k hk)⟩
theorem DiskAt.tr {D : Dk} (h : DiskAt Z w p D) (t : Tr Y w w') (hd : ∀ k,Z k->¬ Y k) : DiskAt Z w' p D:=by
 obtain ⟨a,b,c,d,h⟩:=h
 exact ⟨a,b,c,d,h.tr t hd⟩
theorem DiskAt.below {D : Dk} (h : DiskAt Z w p D) (t : Below w.heap.size w w') : DiskAt Z w' p D:=by
 obtain ⟨a,b,c,d,h⟩:=h
 exact ⟨a,b,c,d,h.below t⟩
theorem DiskAt.mono {D : Dk} (h : DiskAt Z w p D) (hs : ∀ k,Z k->Y k) : DiskAt Y w p D:=by
 obtain ⟨a,b,c,d,h⟩:=h
 exact ⟨a,b,c,d,h.mono hs⟩
structure Dk.Fit (D : Dk) : Prop where
 w : D.wait<=9223372036854775807
 l : D.life<=9223372036854775807
 f0 : 0<=D.failed
 f1 : D.failed<=1000000000000000
def Dk.may (D : Dk) : Bool:=!(decide (D.life = 0) || decide (D.wait = 0))
def Dk.chg (D : Dk) : Dk :=
 if D.may = true then { D with wait:=if 0 < D.wait then D.wait - 1 else D.wait,life:=if 0 < D.life then D.life - 1 else D.life }
 else { D with failed:=D.failed + 1,wait:=if D.life = 0 then D.wait else -1 }
theorem changes_any (Z : Nat->Prop) (p : Nat) (D : Dk) (w : World) (h : DiskAt Z w p D) (hf : D.Fit) :
  Calls Tryz.prog 177 #[.pointer (some ⟨p,0,none⟩)] w fun e w'=>e = .returned (.bool D.may)/\DiskAt Z w' p D.chg/\Tr Z w w':=by
 obtain ⟨vf,vn,vs,vt,h⟩:=h
 have c5 : w.cell? ⟨p,5,none⟩ = some (.int .i64 D.wait):=(h.cell 5).trans rfl
 have c6 : w.cell? ⟨p,6,none⟩ = some (.int .i64 D.life):=(h.cell 6).trans rfl
 have c7 : w.cell? ⟨p,7,none⟩ = some (.int .i64 D.failed):=(h.cell 7).trans rfl
 obtain ⟨f1,f2,f3,f4⟩:=hf
 have fz : ∀ o,w.frozen? ⟨p,o,none⟩ = false:=h.frozen
 have HZ : Hid (DiskIn Z w p D vf vn vs vt):=h
 clear h
 by_cases hl : D.life = 0
 ·have hl' : (D.life == 0) = true:=by simp [hl]
  have HM : Hid (D.may = false):=by show D.may = false;simp [Dk.may,hl]
  have HC : Hid (D.chg = { D with failed:=D.failed + 1 }):=by show D.chg = _;simp [Dk.chg,Dk.may,hl]
  have hl2 : (D.life != 0) = false:=by simp [hl]
  clear hl
  go_enter Tryz.func177,Tryz.ntmps177
  go_wp2
  go_ret
  refine ⟨by rw [HM.out];rfl,?_,(Tr.refl Z w).setCell HZ.out.zp _⟩
  rw [HC.out]
  exact ⟨_,_,_,_,HZ.out.setCell 7 _ rfl rfl rfl rfl rfl⟩
 have hl' : (D.life == 0) = false:=by simp [hl]
 have hl2 : (D.life != 0) = true:=by simp [hl]
 by_cases hw : D.wait = 0
 ·have hw' : (D.wait == 0) = true:=by simp [hw]
  have HM : Hid (D.may = false):=by show D.may = false;simp [Dk.may,hw]
  have HC : Hid (D.chg = { D with failed:=D.failed + 1,wait:=-1 }):=by show D.chg = _;simp [Dk.chg,Dk.may,hw,hl]
  clear hl hw
  go_enter Tryz.func177,Tryz.ntmps177
  go_wp2
  go_ret
  refine ⟨by rw [HM.out];rfl,?_,((Tr.refl Z w).setCell HZ.out.zp _).setCell HZ.out.zp _⟩
  rw [HC.out]
  exact ⟨_,_,_,_,(HZ.out.setCell (D':={ D with failed:=D.failed + 1 }) 7 _ rfl rfl rfl rfl rfl).setCell 5 _ rfl rfl rfl rfl rfl⟩
 have hw' : (D.wait == 0) = false:=by simp [hw]
 have HM : Hid (D.may = true):=by show D.may = true;simp [Dk.may,hw,hl]
 have HC : Hid (D.chg = { D with wait:=if 0 < D.wait then D.wait - 1 else D.wait,life:=if 0 < D.life then D.life - 1 else D.life }):=by show D.chg = _;unfold Dk.chg;rw [if_pos HM.out]
 by_cases h1 : 0 < D.wait
 ·rw [if_pos h1] at HC
  by_cases h2 : 0 < D.life
  ·rw [if_pos h2] at HC
   clear hl hw
   go_enter Tryz.func177,Tryz.ntmps177
   go_wp2
   go_ret
   refine ⟨by rw [HM.out];rfl,?_,((Tr.refl Z w).setCell HZ.out.zp _).setCell HZ.out.zp _⟩
   rw [HC.out]
   exact ⟨_,_,_,_,(HZ.out.setCell (D':={ D with wait:=D.wait - 1 }) 5 _ rfl rfl rfl rfl rfl).setCell 6 _ rfl rfl rfl rfl rfl⟩
  ·rw [if_neg h2] at HC
   clear hl hw
   go_enter Tryz.func177,Tryz.ntmps177
   go_wp2
   go_ret
   refine ⟨by rw [HM.out];rfl,?_,(Tr.refl Z w).setCell HZ.out.zp _⟩
   rw [HC.out]
   exact ⟨_,_,_,_,HZ.out.setCell (D':={ D with wait:=D.wait - 1 }) 5 _ rfl rfl rfl rfl rfl⟩
 ·rw [if_neg h1] at HC
  by_cases h2 : 0 < D.life
  ·rw [if_pos h2] at HC
   clear hl hw
   go_enter Tryz.func177,Tryz.ntmps177
   go_wp2
   go_ret
   refine ⟨by rw [HM.out];rfl,?_,(Tr.refl Z w).setCell HZ.out.zp _⟩
   rw [HC.out]
   exact ⟨_,_,_,_,HZ.out.setCell (D':={ D with life:=D.life - 1 }) 6 _ rfl rfl rfl rfl rfl⟩
  ·rw [if_neg h2] at HC
   clear hl hw
   go_enter Tryz.func177,Tryz.ntmps177
   go_wp2
   go_ret
   refine ⟨by rw [HM.out];rfl,?_,Tr.refl Z w⟩
   rw [HC.out]
   exact ⟨_,_,_,_,HZ.out⟩
end Go.Proofs.YtilkdeghknjjhaaGreatDoor
