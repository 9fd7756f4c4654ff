/- A part of the proof. -/
import Derived.Test.YtilkdeghknjjhaaGreatDoorPart03
import Derived.Lib.QuietBelow
import Derived.Deep.RegionLaw
import Derived.Lib.AppendZerosOnto
import Derived.Lib.Overlaps
import Derived.Laws.Externs
set_option maxRecDepth 20000
set_option maxHeartbeats 3200000
set_option linter.unusedVariables false
namespace Go.Proofs.YtilkdeghknjjhaaGreatDoor
open Go.RowKit Go.Sort M
variable {w : World} {v : Value}
structure Sb where
 n : Int
 c : Int
 v : ByteArray
def Sb.z : Sb:=⟨0,0,ByteArray.empty⟩
def Sb.val (x : Sb) : Value:=.agg #[.int .i64 x.n,.int .i64 x.c,.string x.v]
def sb (l : List Sb) (i : Nat) : Sb:=l.getD i Sb.z
theorem sb_get (l : List Sb) (i : Nat) (h : i < l.length) : sb l i = l[i]:=by simp [sb,List.getD,List.getElem?_eq_getElem h]
def RdS (w : World) (v : Value) (l : List Sb) : Prop :=
 ∃ a cap,v = .slice a l.length cap/\l.length<=cap/\cap<=9223372036854775807 /\
  (0 < l.length->∃ b off,a = some ⟨b,off,none⟩/\∀ j,j < l.length->w.cell? ⟨b,off + j * 3,none⟩ = some (.int .i64 (sb l j).n)/\w.cell? ⟨b,off + j * 3 + 1,none⟩ = some (.int .i64 (sb l j).c)/\w.cell? ⟨b,off + j * 3 + 2,none⟩ = some (.string (sb l j).v))
theorem RdS.nil (w : World) : RdS w (.slice none 0 0) []:=⟨none,0,rfl,Nat.le_refl _,by omega,fun h=>absurd h (by simp)⟩
theorem RdS.below {w' : World} {l : List Sb} (h : RdS w v l) (hb : Below w.heap.size w w') : RdS w' v l:=by
 obtain ⟨a,cap,hv,h1,h2,h3⟩:=h
 refine ⟨a,cap,hv,h1,h2,fun h0=>?_⟩
 obtain ⟨b,off,ha,hc⟩:=h3 h0
 exact ⟨b,off,ha,fun j hj=>⟨cell_later hb (hc j hj).1,cell_later hb (hc j hj).2.1,cell_later hb (hc j hj).2.2⟩⟩
theorem RdS.shape {l : List Sb} (h : RdS w v l) : ∃ a cap,v = .slice a l.length cap:=by
 obtain ⟨a,cap,hv,_⟩:=h
 exact ⟨a,cap,hv⟩
def cellsS : List Sb->List Value
 | []=>[]
 | e :: r=>.int .i64 e.n :: .int .i64 e.c :: .string e.v :: cellsS r
theorem cellsS_len : ∀ l,(cellsS l).length = l.length * 3
 | []=>rfl
 | e :: r=>by simp [cellsS,cellsS_len r];omega
theorem cellsS_at : ∀ (l : List Sb) (j : Nat),j < l.length->(cellsS l)[j * 3]? = some (.int .i64 (sb l j).n)/\(cellsS l)[j * 3 + 1]? = some (.int .i64 (sb l j).c)/\(cellsS l)[j * 3 + 2]? = some (.string (sb l j).v)
 | [],j,h=>absurd h (by simp)
 | e :: r,0,_=>by simp [cellsS,sb]
 | e :: r,j + 1,h=>by
  have:=cellsS_at r j (by simpa using h)
  rw [show (j + 1) * 3 = j * 3 + 1 + 1 + 1 by omega]
  simpa [cellsS,sb] using this
theorem cellsS_append : ∀ (l m : List Sb),cellsS (l ++ m) = cellsS l ++ cellsS m
 | [],m=>rfl
 | x :: r,m=>by simp [cellsS,cellsS_append r m]
theorem cellsS_snoc (l : List Sb) (e : Sb) : cellsS (l ++ [e]) = cellsS l ++ [.int .i64 e.n,.int .i64 e.c,.string e.v]:=by rw [cellsS_append];rfl
theorem one_cellsS : ∀ (l : List Sb),∀ u ∈ cellsS l,u.oneCell' = true
 | [],u,h=>absurd h (by simp [cellsS])
 | e :: r,u,h=>by
  simp only [cellsS,List.mem_cons] at h
  rcases h with rfl | rfl | rfl | h
  ·rfl
  ·rfl
  ·rfl
  ·exact one_cellsS r u h
theorem RdS.own {B n : Nat} {l : List Sb} (h : w.ownsRow B 122 3 v n (cellsS l)) (hn : n = l.length) : RdS w v l:=by
 subst hn
 obtain ⟨h1,h2⟩:=h
 rcases h2 with ⟨hv,h0⟩ | ⟨g,cap,cur,hv,hg,hh,hle,hm,hsz,htk⟩
 ·have : l = []:=List.eq_nil_of_length_eq_zero h0
  subst this;subst hv;exact RdS.nil w
 ·refine ⟨_,cap,hv,hle,by simp only [maxLen] at hm;omega,fun h0=>⟨g,0,rfl,fun j hj=>?_⟩⟩
  have hc : ∀ k,k < l.length * 3->w.cell? ⟨g,0 + k,none⟩ = (cellsS l)[k]?:=by
   intro k hk
   rw [cell_of_row w g (0 + k) cur 122 (0,0) hh,<- htk,List.getElem?_take,if_pos hk]
   simp
  have:=cellsS_at l j hj
  exact ⟨(hc _ (by omega)).trans this.1,by rw [Nat.add_assoc];exact (hc _ (by omega)).trans this.2.1,by rw [Nat.add_assoc];exact (hc _ (by omega)).trans this.2.2⟩
def cd (x y : Sb) : Int:=cmpD x.n x.c y.n y.c
def BSEnd (w : World) (l : List Sb) (x : Sb) (e : Ending) (w' : World) : Prop :=
 ∃ (k : Nat) (f : Bool),e = .returned (.tuple #[.int .i64 k,.bool f])/\k<=l.length/\(0 < k->cd (sb l (k - 1)) x < 0)/\(k < l.length->0<=cd (sb l k) x)/\Below w.heap.size w w'
set_option maxRecDepth 40000 in
theorem BinarySearch_any (v : Value) (l : List Sb) (x : Sb) (w : World) (hrd : RdS w v l) (hl : l.length<=1000) :
  Calls Tryz.prog 234 #[v,.agg #[.int .i64 x.n,.int .i64 x.c,.string x.v],.func (Fn.func 233) #[] #[]] w fun e w'=>BSEnd w l x e w':=by
 obtain ⟨a,cap,rfl,hlc,hc,hA⟩:=hrd
 have hl1 : (l.length : Int)<=1000:=by omega
 clear hlc hc
 go_enter Tryz.func234,Tryz.ntmps234
 go_wp2_with fail
 obtain ⟨W,hW,hb,t0,t1,t2⟩ : ∃ W,(w.alloc (.cells #[.int .i64 x.n,.int .i64 x.c,.string x.v] 122)) = W/\Below w.heap.size w W /\
   W.cell? ⟨w.heap.size,0,none⟩ = some (.int .i64 x.n)/\W.cell? ⟨w.heap.size,1,none⟩ = some (.int .i64 x.c)/\W.cell? ⟨w.heap.size,2,none⟩ = some (.string x.v) :=
  ⟨_,rfl,(Below.refl _ _).alloc (Nat.le_refl _) _,by simp [go_sem],by simp [go_sem],by simp [go_sem]⟩
 rw [hW]
 clear hW
 have HT : Hid (W.cell? ⟨w.heap.size,0,none⟩ = some (.int .i64 x.n)/\W.cell? ⟨w.heap.size,1,none⟩ = some (.int .i64 x.c)/\W.cell? ⟨w.heap.size,2,none⟩ = some (.string x.v)):=⟨t0,t1,t2⟩
 have HB : Hid (Below w.heap.size w W):=hb
 have hwsz:=hb.size
 clear t0 t1 t2 hb
 go_loopw [9,10,11] (fun p q _ wr=>∃ i j : Nat,i<=j/\j<=l.length/\p = .int .i64 i/\q = .int .i64 j/\Hid (0 < i->cd (sb l (i - 1)) x < 0)/\Hid (j < l.length->0<=cd (sb l j) x)/\Below W.heap.size W wr)
  (fun p q _ _=>(intOf q).toNat - (intOf p).toNat)
 case atStart=>exact ⟨0,l.length,by omega,by omega,rfl,rfl,fun h=>by omega,fun h=>by omega,Below.refl _ _⟩
 case round =>
  obtain ⟨i,j,hij,hjl,rfl,rfl,hi,hj,hb⟩:=hrel
  have hsz:=hb.size
  by_cases hlt : i < j
  ·obtain ⟨b,off,rfl,hr⟩:=hA (by omega)
   have hhl : (i + j) / 2 < l.length:=by omega
   have q0 : (0 : Int)<=((i : Int) + (j : Int)) / 2:=by omega
   have q1 : ((i : Int) + (j : Int)) / 2 < (l.length : Int):=by omega
   have q2 : (i : Int) + (j : Int)<=2000:=by omega
   have qh : (((i : Int) + (j : Int)) / 2).toNat = (i + j) / 2:=by omega
   have e0:=cell_regrown (cell_later hb (cell_later HB.out (hr ((i + j) / 2) hhl).1))
   have e1:=cell_regrown (cell_later hb (cell_later HB.out (hr ((i + j) / 2) hhl).2.1))
   have e2:=cell_regrown (cell_later hb (cell_later HB.out (hr ((i + j) / 2) hhl).2.2))
   have f0:=cell_regrown (cell_later hb HT.out.1)
   have f1:=cell_regrown (cell_later hb HT.out.2.1)
   have f2:=cell_regrown (cell_later hb HT.out.2.2)
   have HC : Hid (∀ d os,Calls Tryz.prog 233 #[.agg #[.int .i64 (sb l ((i + j) / 2)).n,.int .i64 (sb l ((i + j) / 2)).c,.string (sb l ((i + j) / 2)).v],.agg #[.int .i64 x.n,.int .i64 x.c,.string x.v]] (grow (redrawn wr d) os) fun e w''=>e = .returned (.int .i64 (cd (sb l ((i + j) / 2)) x))/\∃ p : Regrown,w'' = grow (redrawn wr p.d) p.os) :=
    fun d os=>Calls.regrown_of (compareDots_any _ _ _ _ _ _ _)
   obtain ⟨r,hr2⟩ : ∃ r,cd (sb l ((i + j) / 2)) x = r:=⟨_,rfl⟩
   have HR : Hid (cd (sb l ((i + j) / 2)) x = r):=hr2
   rw [hr2] at HC
   clear hA hr hr2
   go_wp2_with fail
   refine wp_region_quiet_below (by kernel_rfl) (by kernel_rfl) ?_
   repeat (quiet_step (first | (go_at_call 233;exact HC.out _ _)))
   refine wpQuiet_nil ?_
   intro _ hw'
   obtain ⟨⟨dq,osq⟩,hw''⟩:=hw'
   subst hw''
   by_cases hneg : r < 0
   ·go_wp2
    go_roundw
    case rel=>exact ⟨(i + j) / 2 + 1,j,by omega,hjl,by congr 1,rfl,fun _=>by rw [Nat.add_sub_cancel,HR.out];exact hneg,hj,hb.trans ((below_regrown wr dq osq).mono hsz)⟩
    case measure=>simp [intOf];omega
   ·go_wp2
    go_roundw
    case rel=>exact ⟨i,(i + j) / 2,by omega,by omega,rfl,by congr 1,hi,fun _=>by rw [HR.out];omega,hb.trans ((below_regrown wr dq osq).mono hsz)⟩
    case measure=>simp [intOf];omega
  ·have hije : i = j:=by omega
   subst hije
   have hbw : Below w.heap.size w wr:=HB.out.trans (hb.mono hwsz)
   by_cases hin : i < l.length
   ·obtain ⟨b,off,rfl,hr⟩:=hA (by omega)
    have q1 : (i : Int) < (l.length : Int):=by omega
    have e0:=cell_regrown (cell_later hb (cell_later HB.out (hr i hin).1))
    have e1:=cell_regrown (cell_later hb (cell_later HB.out (hr i hin).2.1))
    have e2:=cell_regrown (cell_later hb (cell_later HB.out (hr i hin).2.2))
    have f0:=cell_regrown (cell_later hb HT.out.1)
    have f1:=cell_regrown (cell_later hb HT.out.2.1)
    have f2:=cell_regrown (cell_later hb HT.out.2.2)
    have HC : Hid (∀ d os,Calls Tryz.prog 233 #[.agg #[.int .i64 (sb l i).n,.int .i64 (sb l i).c,.string (sb l i).v],.agg #[.int .i64 x.n,.int .i64 x.c,.string x.v]] (grow (redrawn wr d) os) fun e w''=>e = .returned (.int .i64 (cd (sb l i) x))/\∃ p : Regrown,w'' = grow (redrawn wr p.d) p.os) :=
     fun d os=>Calls.regrown_of (compareDots_any _ _ _ _ _ _ _)
    obtain ⟨r,hr2⟩ : ∃ r,cd (sb l i) x = r:=⟨_,rfl⟩
    rw [hr2] at HC
    clear hA hr hr2
    have gd : decide ((i : Int) < (l.length : Int)) = true:=by simp;omega
    go_wp2_with fail
    refine wp_region_quiet_below (by kernel_rfl) (by kernel_rfl) ?_
    repeat (quiet_step (first | (go_at_call 233;exact HC.out _ _)))
    refine wpQuiet_nil ?_
    intro _ hw'
    obtain ⟨⟨dq,osq⟩,hw''⟩:=hw'
    subst hw''
    go_wp2
    go_ret2
    exact ⟨i,_,rfl,hjl,hi.out,hj.out,hbw.trans ((below_regrown wr dq osq).mono hbw.size)⟩
   ·have gd : decide ((i : Int) < (l.length : Int)) = false:=by simp;omega
    clear hA
    go_wp2_with fail
    go_quiet (fail)
    go_wp2
    go_ret2
    exact ⟨i,_,rfl,hjl,hi.out,hj.out,below_drewN hbw _⟩
end Go.Proofs.YtilkdeghknjjhaaGreatDoor
namespace Go.Proofs.YtilkdeghknjjhaaGreatDoor
open Go.RowKit M
variable {v' : Value} {w' : World}
section
variable {P : Program}
theorem run_copy_into (w : World) (dT sT ty elem : TypeId) (size g o dLen dCap m : Nat) (ad : Addr) (sLen sCap : Nat) (cur : List Value) (t : TypeId) (cs : List Value)
  (hu : P.underlying dT = some (.slice elem)) (hs : (P.info? elem).map (·.size) = some size) (hg : w.heap[g]? = some (.cells cur.toArray t (0,0))) (hm : Nat.min sLen dLen = m) (hcs : cs.length = m * size)
  (hsrc : ∀ j v,cs[j]? = some v->w.cell? (ad.add j) = some v) (hfit : o + cs.length<=cur.length) (h1 : ∀ v ∈ cs,v.oneCell' = true) :
  (Builtin.copy_ #[dT,sT] ty #[.slice (some ⟨g,o,none⟩) dLen dCap,.slice (some ad) sLen sCap]).run P w = .ok (goInt m) (w.setRow g (cur.take o ++ cs ++ cur.drop (o + cs.length)).toArray):=by
 have hst:=run_storeCells_at P g o t cs 0 cur.toArray w hg (by simpa using hfit) h1
 have hl:=run_loadCells_list (P:=P) w ad cs hsrc
 cases hq : P.info? elem with
 | none=>simp [hq] at hs
 | some i =>
  have hi : i.size = size:=by simpa [hq] using hs
  simp at hst
  simp [Builtin.copy_,run_underlying hu,Builtin.lenOf,Builtin.firstCells,sizeOf,typeInfo,hq,hi,hm,<- hcs,hl,hst]
theorem wpList_copy_known (w : World) {ops : Array Oper} {rest : List Oper} {o : Oper} {a : Act} {Q : Exit->Act->World->Prop} (hgd : o.guard = none) (d s : Operand) (t t' : TypeId)
  (ho : o.op = .call { callee:=.builtin .copy,args:=#[d,s],argTypes:=#[t,t'] }) (v u : Value) (hd : a.eval d = v) (hsv : a.eval s = u)
  (hr : ∀ ty,(Builtin.copy_ #[t,t'] ty #[v,u]).run P w = .ok v' w') (h : wpList P ops Q rest (a.put o.dst v') w') : wpList P ops Q (o :: rest) a w:=by
 refine wpList_plain hgd fun K hK=>?_
 unfold Oper.wp
 simp [execOp,ho,resolve,invoke,builtin,hd,hsv,hr,Result.andThen]
 exact hK _ _ h
theorem step_copy_known {ops : Array Oper} {o : Oper} {a : Act} {w : World} {K : Act->World->Prop} {Q : Exit->Act->World->Prop} {E : Prop} (hgd : o.guard = none) (d s : Operand) (t t' : TypeId)
  (ho : o.op = .call { callee:=.builtin .copy,args:=#[d,s],argTypes:=#[t,t'] }) (v u : Value) (hd : a.eval d = v) (hsv : a.eval s = u)
  (hr : ∀ ty,(Builtin.copy_ #[t,t'] ty #[v,u]).run P w = .ok v' w') (h : K (a.put o.dst v') w') : if Region.wanted o (yielded ops a.tmps) = true then Oper.wp P o a w K Q else E:=by
 rw [if_pos (by simp [Region.wanted,hgd])]
 unfold Oper.wp
 simp [execOp,ho,resolve,invoke,builtin,hd,hsv,hr,Result.andThen]
 exact h
theorem wpList_append_known (w : World) {ops : Array Oper} {rest : List Oper} {o : Oper} {a : Act} {Q : Exit->Act->World->Prop} (hgd : o.guard = none) (d s : Operand) (t t' : TypeId)
  (ho : o.op = .call { callee:=.builtin .append,args:=#[d,s],argTypes:=#[t,t'] }) (v u : Value) (hd : a.eval d = v) (hsv : a.eval s = u)
  (hr : ∀ ty,(Builtin.append_ #[t,t'] ty #[v,u]).run P w = .ok v' w') (h : wpList P ops Q rest (a.put o.dst v') w') : wpList P ops Q (o :: rest) a w:=by
 refine wpList_plain hgd fun K hK=>?_
 unfold Oper.wp
 simp [execOp,ho,resolve,invoke,builtin,hd,hsv,hr,Result.andThen]
 exact hK _ _ h
end
theorem size57 : (Tryz.prog.info? 122).map (·.size) = some 3:=by kernel_rfl
def put (l : List Sb) (k : Nat) (x : Sb) : List Sb:=l.take k ++ x :: l.drop k
theorem put_len (l : List Sb) (k : Nat) (x : Sb) (h : k<=l.length) : (put l k x).length = l.length + 1:=by simp [put];omega
theorem cellsS_put (l : List Sb) (k : Nat) (x : Sb) : cellsS (put l k x) = cellsS (l.take k) ++ [.int .i64 x.n,.int .i64 x.c,.string x.v] ++ cellsS (l.drop k):=by
 unfold put;rw [cellsS_append];simp [cellsS]
theorem cellsS_take (l : List Sb) (k : Nat) (h : k<=l.length) : (cellsS l).take (k * 3) = cellsS (l.take k):=by
 have e : cellsS l = cellsS (l.take k) ++ cellsS (l.drop k):=by rw [<- cellsS_append,List.take_append_drop]
 rw [e,List.take_append_of_le_length (by rw [cellsS_len];simp;omega),List.take_of_length_le (by rw [cellsS_len];simp;omega)]
theorem cellsS_drop (l : List Sb) (k : Nat) (h : k<=l.length) : (cellsS l).drop (k * 3) = cellsS (l.drop k):=by
 have e : cellsS l = cellsS (l.take k) ++ cellsS (l.drop k):=by rw [<- cellsS_append,List.take_append_drop]
 rw [e,List.drop_append_of_le_length (by rw [cellsS_len];simp;omega),List.drop_eq_nil_of_le (by rw [cellsS_len];simp;omega),List.nil_append]
set_option maxRecDepth 40000 in
theorem Insert_end (B : Nat) (v : Value) (l : List Sb) (x : Sb) (g2 c2 : Nat) (w : World) (hB : B<=w.heap.size) (hown : w.ownsRow B 122 3 v l.length (cellsS l)) (hl : l.length<=1000)
  (hx : ∀ j u,[Value.int .i64 x.n,.int .i64 x.c,.string x.v][j]? = some u->w.cell? ((⟨g2,0,none⟩ : Addr).add j) = some u) :
  Calls Tryz.prog 235 #[v,.int .i64 (l.length : Int),.slice (some ⟨g2,0,none⟩) 1 c2] w fun e w'=>∃ v',e = .returned v'/\w'.ownsRow B 122 3 v' (l.length + 1) (cellsS (put l l.length x))/\Below B w w':=by
 obtain ⟨i0,hi,hz0,hz1,hz2⟩:=info_parts Tryz.info122
 have hvl : ∃ a cap,v = .slice a l.length cap/\l.length<=cap:=by
  rcases hown.2 with ⟨h1,h2⟩ | ⟨g,cap,cur,h1,_,_,h2,_⟩
  ·exact ⟨none,0,by rw [h1,h2],by omega⟩
  ·exact ⟨_,_,h1,h2⟩
 obtain ⟨a,cap,rfl,hcap⟩:=hvl
 have hl1 : (l.length : Int)<=1000:=by omega
 have hc1 : cap<=9223372036854775807:=by
  rcases hown.2 with ⟨h1,h2⟩ | ⟨g,cap',cur,h1,_,_,_,hm,_⟩
  ·simp at h1;omega
  ·simp at h1;simp only [maxLen] at hm;omega
 have HP : Hid (cellsS (put l l.length x) = cellsS l ++ [.int .i64 x.n,.int .i64 x.c,.string x.v]):=by
  show _ = _
  rw [cellsS_put];simp [cellsS]
 by_cases hcn : cap = l.length
 ·subst hcn
  go_enter Tryz.func235,Tryz.ntmps235
  go_wp2_with (first
   | (at_builtin;refine wpList_append_own _ rfl _ _ 115 rfl B 122 i0 (.agg #[.int .i64 0,.int .i64 0,.string ByteArray.empty]) 3 32 Tryz.underlying115 hi hz0 hz1 hz2 rfl (by decide) _ _ _ rfl hown ⟨g2,0,none⟩ 1 c2 [.int .i64 x.n,.int .i64 x.c,.string x.v] rfl rfl hx ?c2 ?c3 ?c4 ?c5 ?_))
  case c2=>intro u hu;simp at hu;rcases hu with rfl | rfl | rfl <;> rfl
  case c3=>unfold maxLen;omega
  case c4=>omega
  case c5=>omega
  ·intro v' w2 hown' hgrow _
   go_wp2
   go_ret
   exact ⟨_,rfl,by rw [HP.out];exact hown',(Below.refl _ _).grown hgrow hB (fun q hq=>(hown.lt q hq).1)⟩
 ·have hcn2 : ¬ cap = l.length:=hcn
  go_enter Tryz.func235,Tryz.ntmps235
  go_wp2_with (first
   | (at_builtin;refine wpList_append_own _ rfl _ _ 115 rfl B 122 i0 (.agg #[.int .i64 0,.int .i64 0,.string ByteArray.empty]) 3 32 Tryz.underlying115 hi hz0 hz1 hz2 rfl (by decide) _ _ _ rfl hown ⟨g2,0,none⟩ 1 c2 [.int .i64 x.n,.int .i64 x.c,.string x.v] rfl rfl hx ?c2 ?c3 ?c4 ?c5 ?_))
  case c2=>intro u hu;simp at hu;rcases hu with rfl | rfl | rfl <;> rfl
  case c3=>unfold maxLen;omega
  case c4=>omega
  case c5=>omega
  ·intro v' w2 hown' hgrow _
   go_wp2
   go_ret
   exact ⟨_,rfl,by rw [HP.out];exact hown',(Below.refl _ _).grown hgrow hB (fun q hq=>(hown.lt q hq).1)⟩
end Go.Proofs.YtilkdeghknjjhaaGreatDoor
namespace Go.Proofs.YtilkdeghknjjhaaGreatDoor
open Go.RowKit M
theorem size57r : ∀ w,(Go.sizeOf 122).run Tryz.prog w = .ok 3 w:=fun w=>by
 obtain ⟨i0,hi,hz0,hz1,hz2⟩:=info_parts Tryz.info122
 simp [sizeOf,typeInfo,hi,hz1]
theorem shape_of {w : World} {g : Nat} {cs : Array Value} {t : TypeId} (h : w.heap[g]? = some (.cells cs t (0,0))) : w.shape? g = some (t,cs.size):=by
 simp [World.shape?,h]
theorem overlaps_no (w : World) (g g2 o la ca lb cb : Nat) (cur : Array Value) (x : Array Value) (hne : g2 ≠ g) (hg : w.heap[g]? = some (.cells cur 122 (0,0))) (hx : w.heap[g2]? = some (.cells x 122 (0,0))) (hc : cur.size ≠ 0) :
  (callFunc 268 #[.slice (some ⟨g2,0,none⟩) la ca,.slice (some ⟨g,o,none⟩) lb cb]).run Tryz.prog w = .ok (.value (.bool false)) w:=by
 rw [run_callFunc_extern Tryz.func268 (by kernel_rfl) (by kernel_rfl) (by kernel_rfl) (e:=Extern.SlicesOverlaps.overlaps #[115,115] #[4]) (by kernel_rfl),
  Lib.run_overlaps_apart w 115 4 122 Tryz.underlying115 3 size57r ⟨g2,0,none⟩ ⟨g,o,none⟩ la ca lb cb hne 122 122 x.size cur.size (shape_of hx) (shape_of hg) hc (frozen_of_row _ _ _ _ _ hx) (frozen_of_row _ _ _ _ _ hx)]
 rfl
set_option maxRecDepth 40000 in
theorem Insert_shift (B g cap : Nat) (cur : List Value) (l : List Sb) (x : Sb) (g2 c2 k : Nat) (w : World) (hBg : B<=g) (hB : B<=w.heap.size) (hg : w.heap[g]? = some (.cells cur.toArray 122 (0,0))) (hsz : cur.length = cap * 3)
  (htk : cur.take (l.length * 3) = cellsS l) (hcm : cap<=maxLen) (hl : l.length<=1000) (hk : k < l.length) (hroom : l.length + 1<=cap) (hne : g2 ≠ g)
  (hx : w.heap[g2]? = some (.cells #[Value.int .i64 x.n,Value.int .i64 x.c,Value.string x.v] 122 (0,0))) :
  Calls Tryz.prog 235 #[.slice (some ⟨g,0,none⟩) l.length cap,.int .i64 (k : Int),.slice (some ⟨g2,0,none⟩) 1 c2] w fun e w'=>∃ v',e = .returned v'/\w'.ownsRow B 122 3 v' (l.length + 1) (cellsS (put l k x))/\Below B w w':=by
 have hl1 : (l.length : Int)<=1000:=by omega
 have hc1 : cap<=9223372036854775807:=by simp only [maxLen] at hcm;omega
 have hov:=fun lb cb=>overlaps_no w g g2 ((k + 1) * 3) 1 c2 lb cb cur.toArray _ hne hg hx (by rw [List.size_toArray,hsz];omega)
 have s1 : ¬ ((1 : Int) = 0):=by omega
 have s2 : ¬ ((k : Int) = (l.length : Int)):=by omega
 have s2' : ((k : Int) == (l.length : Int)) = false:=by simp;omega
 have s3 : ¬ cap = k:=by omega
 have s4 : ¬ cap = k + 1:=by omega
 have s5 : (k : Int) < (l.length : Int):=by omega
 have s6 : (l.length : Int) + 1<=(cap : Int):=by omega
 have hd3 : (cellsS (l.drop k)).length = (l.length - k) * 3:=by rw [cellsS_len];simp
 have hcell : ∀ j u,(cellsS (l.drop k))[j]? = some u->cur[k * 3 + j]? = some u:=by
  intro j u hu
  have hj : j < (l.length - k) * 3:=by rw [<- hd3];exact (List.getElem?_eq_some_iff.1 hu).1
  rw [<- cellsS_drop l k (by omega),List.getElem?_drop,<- htk,List.getElem?_take] at hu
  rw [if_pos (by omega)] at hu
  exact hu
 have hr1 : ∀ ty,(Builtin.copy_ #[115,115] ty #[.slice (some ⟨g,(k + 1) * 3,none⟩) (l.length - k) (cap - (k + 1)),.slice (some ⟨g,k * 3,none⟩) (l.length + 1 - k) (cap - k)]).run Tryz.prog w.drew =
   .ok (goInt ((l.length - k : Nat) : Int)) (w.drew.setRow g (cur.take ((k + 1) * 3) ++ cellsS (l.drop k) ++ cur.drop ((k + 1) * 3 + (cellsS (l.drop k)).length)).toArray):=fun ty =>
  run_copy_into w.drew 115 115 ty 122 3 g ((k + 1) * 3) (l.length - k) (cap - (k + 1)) (l.length - k) ⟨g,k * 3,none⟩ (l.length + 1 - k) (cap - k) cur 122 (cellsS (l.drop k)) Tryz.underlying115 size57 hg (by simp only [Nat.min_def];split <;> omega) hd3
   (fun j u hu=>by rw [Addr.add_lit,cell_of_row w.drew _ _ _ _ _ hg];simpa using hcell j u hu) (by rw [hd3,hsz];omega) (one_cellsS _)
 obtain ⟨R1,hR1⟩ : ∃ R1,cur.take ((k + 1) * 3) ++ cellsS (l.drop k) ++ cur.drop ((k + 1) * 3 + (cellsS (l.drop k)).length) = R1:=⟨_,rfl⟩
 have hR1l : R1.length = cap * 3:=by
  rw [<- hR1]
  simp only [List.length_append,List.length_take,List.length_drop,hsz,hd3]
  omega
 rw [hR1] at hr1
 have hg1 : (w.drew.setRow g R1.toArray).heap[g]? = some (.cells R1.toArray 122 (0,0)):=setRow_heap w.drew g cur.toArray _ 122 _ hg
 have hx1 : (w.drew.setRow g R1.toArray).heap[g2]? = some (.cells #[Value.int .i64 x.n,Value.int .i64 x.c,Value.string x.v] 122 (0,0)):=(setRow_other w.drew g g2 _ hne).trans hx
 have hr2 : ∀ ty,(Builtin.copy_ #[115,115] ty #[.slice (some ⟨g,k * 3,none⟩) (l.length + 1 - k) (cap - k),.slice (some ⟨g2,0,none⟩) 1 c2]).run Tryz.prog (w.drew.setRow g R1.toArray) =
   .ok (goInt ((1 : Nat) : Int)) ((w.drew.setRow g R1.toArray).setRow g (R1.take (k * 3) ++ [Value.int .i64 x.n,Value.int .i64 x.c,Value.string x.v] ++ R1.drop (k * 3 + 3)).toArray):=fun ty =>
  run_copy_into _ 115 115 ty 122 3 g (k * 3) (l.length + 1 - k) (cap - k) 1 ⟨g2,0,none⟩ 1 c2 R1 122 [Value.int .i64 x.n,Value.int .i64 x.c,Value.string x.v] Tryz.underlying115 size57 hg1 (by simp only [Nat.min_def];split <;> omega) rfl
   (fun j u hu=>by rw [Addr.add_lit,cell_of_row _ _ _ _ _ _ hx1];simpa using hu) (by rw [hR1l];simp;omega) (fun u hu=>by simp at hu;rcases hu with rfl | rfl | rfl <;> rfl)
 obtain ⟨R2,hR2⟩ : ∃ R2,R1.take (k * 3) ++ [Value.int .i64 x.n,Value.int .i64 x.c,Value.string x.v] ++ R1.drop (k * 3 + 3) = R2:=⟨_,rfl⟩
 rw [hR2] at hr2
 have hfin : ((w.drew.setRow g R1.toArray).setRow g R2.toArray).ownsRow B 122 3 (.slice (some ⟨g,0,none⟩) (l.length + 1) cap) (l.length + 1) (cellsS (put l k x)):=by
  refine ⟨by rw [cellsS_len,put_len l k x (by omega)],.inr ⟨g,cap,R2.toArray,rfl,hBg,setRow_heap _ _ _ _ _ _ hg1,hroom,hcm,?_,?_⟩⟩
  ·rw [List.size_toArray,<- hR2]
   simp only [List.length_append,List.length_take,List.length_drop,hR1l,List.length_cons,List.length_nil]
   omega
  ·show R2.take ((l.length + 1) * 3) = _
   rw [cellsS_put,<- hR2,<- hR1]
   have e1 : (cur.take ((k + 1) * 3) ++ cellsS (l.drop k) ++ cur.drop ((k + 1) * 3 + (cellsS (l.drop k)).length)).take (k * 3) = cellsS (l.take k):=by
    rw [List.append_assoc,List.take_append_of_le_length (by rw [List.length_take,hsz];omega),List.take_take,Nat.min_eq_left (by omega),<- cellsS_take l k (by omega),<- htk,List.take_take,Nat.min_eq_left (by omega)]
   have e2 : (cur.take ((k + 1) * 3) ++ cellsS (l.drop k) ++ cur.drop ((k + 1) * 3 + (cellsS (l.drop k)).length)).drop (k * 3 + 3) = cellsS (l.drop k) ++ cur.drop ((k + 1) * 3 + (cellsS (l.drop k)).length):=by
    rw [List.append_assoc,List.drop_append,List.drop_eq_nil_of_le (by rw [List.length_take,hsz];omega),List.length_take,hsz,List.nil_append,show k * 3 + 3 - min ((k + 1) * 3) (cap * 3) = 0 by omega]
    rfl
   rw [e1,e2]
   have e3 : (cellsS (l.take k) ++ [Value.int .i64 x.n,Value.int .i64 x.c,Value.string x.v] ++ (cellsS (l.drop k) ++ cur.drop ((k + 1) * 3 + (cellsS (l.drop k)).length))) =
     (cellsS (l.take k) ++ [Value.int .i64 x.n,Value.int .i64 x.c,Value.string x.v] ++ cellsS (l.drop k)) ++ cur.drop ((k + 1) * 3 + (cellsS (l.drop k)).length):=by simp only [List.append_assoc]
   rw [e3]
   refine (List.take_append_of_le_length ?_).trans (List.take_of_length_le ?_)
   ·simp only [List.length_append,hd3,cellsS_len,List.length_take,List.length_cons,List.length_nil];omega
   ·simp only [List.length_append,hd3,cellsS_len,List.length_take,List.length_cons,List.length_nil];omega
 have hbel : Below B w ((w.drew.setRow g R1.toArray).setRow g R2.toArray):=below_setRow (below_setRow ((Below.refl B w).drew) hBg _) hBg _
 have HF : Hid (((w.drew.setRow g R1.toArray).setRow g R2.toArray).ownsRow B 122 3 (.slice (some ⟨g,0,none⟩) (l.length + 1) cap) (l.length + 1) (cellsS (put l k x))/\Below B w ((w.drew.setRow g R1.toArray).setRow g R2.toArray)):=⟨hfin,hbel⟩
 have H1 : Hid (∀ ty,(Builtin.copy_ #[115,115] ty #[.slice (some ⟨g,(k + 1) * 3,none⟩) (l.length - k) (cap - (k + 1)),.slice (some ⟨g,k * 3,none⟩) (l.length + 1 - k) (cap - k)]).run Tryz.prog w.drew = .ok (goInt ((l.length - k : Nat) : Int)) (w.drew.setRow g R1.toArray)):=hr1
 have H2 : Hid (∀ ty,(Builtin.copy_ #[115,115] ty #[.slice (some ⟨g,k * 3,none⟩) (l.length + 1 - k) (cap - k),.slice (some ⟨g2,0,none⟩) 1 c2]).run Tryz.prog (w.drew.setRow g R1.toArray) = .ok (goInt ((1 : Nat) : Int)) ((w.drew.setRow g R1.toArray).setRow g R2.toArray)):=hr2
 clear hfin hbel hr1 hr2 hg hx htk hsz hcell hd3 hR1 hR1l hR2 hg1 hx1
 go_enter Tryz.func235,Tryz.ntmps235
 go_wp2_with (simp only [hov])
 have hw1 : IntKind.i64.wrap ((k : Int) + 1) = (k : Int) + 1:=by rw [IntKind.wrap_i64];omega
 have hb1 : (0 : Int)<=(k : Int) + 1:=by omega
 have htn : ((k : Int) + 1).toNat = k + 1:=by omega
 have hb3 : (k : Int)<=(l.length : Int):=by omega
 have hb4 : (k : Int)<=(l.length : Int) + 1:=by omega
 go_region_law (refine step_copy_known rfl _ _ 115 115 rfl (.slice (some ⟨g,(k + 1) * 3,none⟩) (l.length - k) (cap - (k + 1))) (.slice (some ⟨g,k * 3,none⟩) (l.length + 1 - k) (cap - k)) (by simp [Act.eval,Act.put]) (by simp [Act.eval,Act.put]) H1.out ?_)
 go_wp2_with (refine wpList_copy_known _ rfl _ _ 115 115 rfl (.slice (some ⟨g,k * 3,none⟩) (l.length + 1 - k) (cap - k)) (.slice (some ⟨g2,0,none⟩) 1 c2) rfl rfl H2.out ?_)
 go_ret
 exact ⟨_,rfl,HF.out.1,HF.out.2⟩
end Go.Proofs.YtilkdeghknjjhaaGreatDoor
