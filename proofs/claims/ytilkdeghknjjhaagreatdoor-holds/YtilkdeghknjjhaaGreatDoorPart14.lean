/- A part of the proof. -/
import Derived.Test.YtilkdeghknjjhaaGreatDoorPart10
import Derived.Test.YtilkdeghknjjhaaGreatDoorPart11
set_option maxRecDepth 20000
set_option maxHeartbeats 3200000
set_option linter.unusedVariables false
namespace Go.Proofs.YtilkdeghknjjhaaGreatDoor
open Go.RowKit M
variable {w w4 w5 : World} {e n Jn cap4 n5 cap5 : Nat} {v : Value} {xs ys : List Value} {a4 a5 : Option Addr}
section
variable {P : Program}
theorem step_append_own {ops : Array Oper} {o : Oper} {a : Act} {K : Act->World->Prop} {Q : Exit->Act->World->Prop} {E : Prop} (hgd : o.guard = none) (s x : Operand) (t : TypeId)
  (ho : o.op = .call { callee:=.builtin .append,args:=#[s,x],argTypes:=#[t,t] })
  (base : Nat) (e : TypeId) (i : TypeInfo) (z : Value) (size bytes : Nat) (ht : P.underlying t = some (.slice e)) (hi : P.info? e = some i) (hz : i.zero = some z)
  (hsize : i.size = size) (hby : i.bytes = bytes) (hzs : z.cells.size = size) (hsz : 0 < size)
  (v : Value) (n : Nat) (xs : List Value) (hs : a.eval s = v) (hown : w.ownsRow base e size v n xs)
  (ad : Addr) (m c : Nat) (news : List Value) (hx : a.eval x = .slice (some ad) m c) (hl : news.length = m * size) (hnews : ∀ j u,news[j]? = some u->w.cell? (ad.add j) = some u) (h1 : ∀ u ∈ news,u.oneCell' = true)
  (h63 : n + m<=maxLen) (hbytes : (n + m) * bytes<=140737488355328) (hbase : base<=w.heap.size)
  (h : ∀ v' w',w'.ownsRow base e size v' (n + m) (xs ++ news)->w.grownBy w' v.ownBlock->K (a.put o.dst v') w') :
  if Region.wanted o (yielded ops a.tmps) = true then Oper.wp P o a w K Q else E:=by
 have hw : Region.wanted o (yielded ops a.tmps) = true:=by simp [Region.wanted,hgd]
 rw [if_pos hw]
 obtain ⟨v',w',hrun,r1,r2,_⟩:=run_append_own (P:=P) w base t o.type e i z size bytes ht hi hz hsize hby hzs hsz v n xs hown ad m c news hl hnews h1 h63 hbytes hbase
 unfold Oper.wp
 simp [execOp,ho,resolve,invoke,builtin,hs,hx,hrun,Result.andThen]
 exact h v' w' r1 r2
end
theorem own_drew {B size : Nat} (h : w.ownsRow B e size v n xs) : w.drew.ownsRow B e size v n xs:=h
theorem results28 (tmps : Array Value) (w : World) (g : Nat) (v1 v2 : Value) (n : Int) (h2 : tmps.getD 4 undef = .pointer (some ⟨g,0,none⟩)) (h3 : tmps.getD 5 undef = .int .i64 n) (hg : w.heap[g]? = some (.cells #[v1,v2] 117 (0,0))) :
  (results Tryz.f175 tmps).run Tryz.prog w = .ok (.tuple #[.agg #[v1,v2],.int .i64 n]) w:=by
 have hl:=run_loadVar_row (P:=Tryz.prog) w g 117 117 #[v1,v2] (0,0) _ hg Tryz.underlying117 rfl info38
 have h2' : tmps[4]?.getD undef = .pointer (some ⟨g,0,none⟩):=by simpa using h2
 have h3' : tmps[5]?.getD undef = .int .i64 n:=by simpa using h3
 simp [results,Tryz.results175,h2',h3',asAddr,hl]
theorem own_ne_row {B s k : Nat} {t : TypeId} {old : Array Value} (h : w.ownsRow B e s v n xs) (hk : w.heap[k]? = some (.cells old t (0,0))) (hne : e ≠ t) : some k ≠ v.ownBlock:=by
 intro hh
 rcases h.2 with ⟨rfl,_⟩ | ⟨g,cap,cur,rfl,_,hg,_⟩
 ·simp [Value.ownBlock] at hh
 ·simp [Value.ownBlock] at hh
  subst hh
  rw [hg] at hk
  simp at hk
  exact hne hk.2
theorem grow_pack {X : World} {Q : Nat} {U : List Sb} {v' : Value} (hbX : Below Q w4 X) (hQ : X.heap[Q]? = some (.cells #[.slice a4 Jn cap4,.slice a5 n5 cap5] 117 (0,0)))
  (hO : X.ownsRow Q 122 3 (.slice a5 n5 cap5) n5 (cellsS U)) (hown : w5.ownsRow Q 122 3 v' (n5 + 1) ys) (hgrow : X.grownBy w5 (Value.slice a5 n5 cap5).ownBlock) :
  ∃ a7 cap7,v' = .slice a7 (n5 + 1) cap7/\Below Q w4 w5/\w5.heap[Q]? = some (.cells #[.slice a4 Jn cap4,.slice a5 n5 cap5] 117 (0,0))/\w5.cell? ⟨Q,1,none⟩ = some (.slice a5 n5 cap5)/\w5.frozen? ⟨Q,1,none⟩ = false/\Q<=w5.heap.size:=by
 obtain ⟨a7,cap7,rfl⟩:=own_shape hown
 have hlt:=(Array.getElem?_eq_some_iff.1 hQ).1
 have hrow:=(hgrow.block Q hlt (own_ne_row hO hQ (by decide))).trans hQ
 have hsz:=hgrow.size
 refine ⟨a7,cap7,rfl,hbX.grown hgrow (by omega) (fun q hq=>(hO.lt q hq).1),hrow,?_,frozen_of_row _ _ _ _ _ hrow,by omega⟩
 rw [cell_of_row _ _ _ _ _ _ hrow]
 rfl
theorem pack_end {Q : Nat} {a7 : Option Addr} {cap7 : Nat} (hb : Below Q w4 w5) (hQ : w5.heap[Q]? = some (.cells #[.slice a4 Jn cap4,.slice a5 n5 cap5] 117 (0,0))) (ho : w5.ownsRow Q 122 3 (.slice a7 (n5 + 1) cap7) (n5 + 1) ys) :
  (w5.setCell ⟨Q,1,none⟩ (.slice a7 (n5 + 1) cap7)).heap[Q]? = some (.cells #[.slice a4 Jn cap4,.slice a7 (n5 + 1) cap7] 117 (0,0))/\(w5.setCell ⟨Q,1,none⟩ (.slice a7 (n5 + 1) cap7)).ownsRow Q 122 3 (.slice a7 (n5 + 1) cap7) (n5 + 1) ys /\
   Below Q w4 (w5.setCell ⟨Q,1,none⟩ (.slice a7 (n5 + 1) cap7)):=by
 refine ⟨?_,⟨ho.1,?_⟩,hb.setCell (Nat.le_refl _) _⟩
 ·rw [heap_setCell_same _ _ _ _ _ _ hQ];rfl
 ·rcases ho.2 with hn | ⟨g,cap,cur,h1,h2,h3,rest⟩
  ·exact .inl hn
  ·refine .inr ⟨g,cap,cur,h1,h2,?_,rest⟩
   rw [heap_setCell_other _ _ _ _ (fun e=>by
    simp only at e
    rw [e] at h3
    rw [hQ] at h3
    simp at h3)]
   exact h3
set_option maxRecDepth 40000 in
theorem refDiscard_any (vs v vc : Value) (sc c : List (Int × Int)) (l : List Sb) (w : World) (hrs : Rd w vs sc) (hrd : RdS w v l) (hrc : Rd w vc c) :
  Calls Tryz.prog 175 #[.agg #[vs,v],vc] w fun e w'=>DisEnd w sc c l e w':=by
 obtain ⟨i0,hi,hz0,hz1,hz2⟩:=info_parts Tryz.info122
 obtain ⟨ps,caps,rfl⟩:=hrs.shape
 obtain ⟨a,cap,rfl⟩:=hrd.shape
 obtain ⟨ac,capc,rfl⟩:=hrc.shape
 go_enter Tryz.func175,Tryz.ntmps175
 go_wp2_with fail
 obtain ⟨W,hW,hb,t0,t1,rg⟩ : ∃ W,((w.alloc (.cells #[.slice ps sc.length caps,.slice a l.length cap] 117)).alloc (.cells #[.slice none 0 0,.slice none 0 0] 117)) = W/\Below w.heap.size w W /\
   W.cell? ⟨w.heap.size,0,none⟩ = some (.slice ps sc.length caps)/\W.cell? ⟨w.heap.size,1,none⟩ = some (.slice a l.length cap) /\
   W.heap[w.heap.size + 1]? = some (.cells nilSet 117 (0,0)) :=
  ⟨_,rfl,((Below.refl _ _).alloc (Nat.le_refl _) _).alloc (by simp) _,by simp [go_sem],by simp [go_sem],heap_alloc2_new w _ _⟩
 rw [hW]
 refine (refset_any _ _ sc l W (hrs.below hb) (hrd.below hb)).mono ?_
 rintro e w1 ⟨r,rfl,hr,hb2⟩
 have hb1 : Below w.heap.size w w1:=hb.trans (hb2.mono hb.size)
 have e0:=cell_later hb2 t0
 have e1:=cell_later hb2 t1
 have HG : Hid (w1.heap[w.heap.size + 1]? = some (.cells nilSet 117 (0,0))):=heap_later hb2 rg
 have hrd1:=hrd.below hb1
 have hrs1:=hrs.below hb1
 have hrc1:=hrc.below hb1
 have hs1:=hb1.size
 clear t0 t1 rg hW hb hb2 hrc hrd hrs
 go_wp2_with fail
 refine (refClock_any _ c w1 hrc1).mono ?_
 rintro e w2 ⟨ok,F,rfl,hok,hF,hb2⟩
 have hb3 : Below w.heap.size w w2:=hb1.trans (hb2.mono hs1)
 have hs2:=hb3.size
 go_upto_region 3 with (first
  | (refine wpList_store_row rfl 241 _ _ rfl w2.heap.size (arr F) rfl rfl 241 (arr zF) (alloc_lit w2 (arr zF)) (by rw [arr_size];exact info61) (by rw [arr_size,arr_size]) (one_arr _) ?_))
 obtain ⟨w3,hw3,hr3,hba⟩ : ∃ w3,((w2.alloc (.cells (arr zF) 241)).setRow w2.heap.size (arr F)) = w3/\w3.heap[w2.heap.size]? = some (.cells (arr F) 241 (0,0))/\Below w2.heap.size w2 w3 :=
  ⟨_,rfl,setRow_heap _ _ _ _ _ _ (alloc_lit w2 (arr zF)),below_setRow ((Below.refl _ _).alloc (Nat.le_refl _) _) (Nat.le_refl _) _⟩
 rw [zlit] at hw3
 rw [hw3]
 clear hw3
 have hb13:=hb2.trans (hba.mono hb2.size)
 have hb03:=hb3.trans (hba.mono hs2)
 have hs3:=hb03.size
 have f0:=cell_later hb13 e0
 have f1:=cell_later hb13 e1
 have HG3 : Hid (w3.heap[w.heap.size + 1]? = some (.cells nilSet 117 (0,0))):=heap_later hb13 HG.out
 have hrd3:=hrd1.below hb13
 have hrs3:=hrs1.below hb13
 have hrc3:=hrc1.below hb13
 have HR3 : Hid (w3.heap[w2.heap.size]? = some (.cells (arr F) 241 (0,0))):=hr3
 clear e0 e1 HG hrd1 hrs1 hrc1 hb2 hba hr3 hb13 hb1 hs1 hb3
 rcases (Classical.em (SetOK sc l)).symm with hk | hk
 ·have hrf : r = false:=by cases r with
   | false=>rfl
   | true=>exact absurd (hr.1 rfl) hk
  subst hrf
  have HN : Hid (¬ (SetOK sc l/\Clk c)):=fun h=>hk h.1
  clear hr hk hok hF hrd3 hrs3 hrc3
  go_wp2_with (first
   | (refine wpList_store_row rfl 117 _ _ rfl (w.heap.size + 1) nilSet rfl rfl 117 nilSet HG3.out info38 rfl one_nilSet ?_))
  refine bodyPost_ret (results28 _ _ (w.heap.size + 1) _ _ 1 rfl rfl (setRow_heap _ _ _ _ _ _ HG3.out)) rfl ⟨below_setRow hb03 (by omega) _,.inl ⟨HN.out,rfl⟩⟩
 have hrt:=hr.2 hk
 subst hrt
 have HK : Hid (SetOK sc l):=hk
 clear hr hk
 rcases (Classical.em (Clk c)).symm with hk | hk
 ·have hrf : ok = false:=by cases ok with
   | false=>rfl
   | true=>exact absurd (hok.1 rfl) hk
  subst hrf
  have HN : Hid (¬ (SetOK sc l/\Clk c)):=fun h=>hk h.2
  clear hk hok hF hrd3 hrs3 hrc3
  go_wp2_with (first
   | (refine wpList_store_row rfl 117 _ _ rfl (w.heap.size + 1) nilSet rfl rfl 117 nilSet HG3.out info38 rfl one_nilSet ?_))
  refine bodyPost_ret (results28 _ _ (w.heap.size + 1) _ _ 1 rfl rfl (setRow_heap _ _ _ _ _ _ HG3.out)) rfl ⟨below_setRow hb03 (by omega) _,.inl ⟨HN.out,rfl⟩⟩
 have hrt:=hok.2 hk
 subst hrt
 have HK2 : Hid (Clk c):=hk
 have HF : Hid (F = cN c):=hF rfl
 clear hok hk hF
 go_wp2_with fail
 refine (refJoin_any _ _ sc c w3 hrs3 hrc3).mono ?_
 rintro e w4 ⟨⟨hno,_⟩ | ⟨_,_,h8,rfl⟩ | ⟨_,_,h8,v4,rfl,ho⟩,hb4⟩
 ·exact absurd hno (fun h=>h.elim (fun h=>h HK.out.1) (fun h=>h HK2.out))
 ·have hb04:=hb03.trans (hb4.mono hs3)
  have HG4 : Hid (w4.heap[w.heap.size + 1]? = some (.cells nilSet 117 (0,0))):=heap_later hb4 HG3.out
  have H8 : Hid (8 < (jn [sc,c]).length):=h8
  clear h8 hb4 hrs3 hrc3 hrd3 HG3
  go_wp2_with (first
   | (refine wpList_store_row rfl 117 _ _ rfl (w.heap.size + 1) nilSet rfl rfl 117 nilSet HG4.out info38 rfl one_nilSet ?_))
  refine bodyPost_ret (results28 _ _ (w.heap.size + 1) _ _ 5 rfl rfl (setRow_heap _ _ _ _ _ _ HG4.out)) rfl ⟨below_setRow hb04 (by omega) _,.inr (.inl ⟨HK.out,HK2.out,H8.out,rfl⟩)⟩
 ·have hb04:=hb03.trans (hb4.mono hs3)
  have hs4:=hb04.size
  have HG4 : Hid (w4.heap[w.heap.size + 1]? = some (.cells nilSet 117 (0,0))):=heap_later hb4 HG3.out
  have HR4 : Hid (w4.heap[w2.heap.size]? = some (.cells (arr F) 241 (0,0))):=heap_later hb4 HR3.out
  have H8 : Hid ((jn [sc,c]).length<=8):=h8
  have g1:=cell_later hb4 f1
  have hrd4:=hrd3.below hb4
  have ho2:=own_base (B:=w.heap.size) ho hs3
  obtain ⟨a4,cap4,rfl⟩:=own_shape ho2
  have HO : Hid (w4.ownsRow w.heap.size 183 2 (.slice a4 (jn [sc,c]).length cap4) (jn [sc,c]).length (cellsE (jn [sc,c]))):=ho2
  have HE : Hid (w4.cell? ⟨w.heap.size,1,none⟩ = some (.slice a l.length cap)):=g1
  have hl6:=HK.out.2.1
  obtain ⟨a',cap',hv,_,_,hA⟩:=hrd4
  obtain ⟨rfl,-,rfl⟩ : a = a'/\l.length = l.length/\cap = cap':=by simpa using hv
  have HA : Hid (0 < l.length->∃ b off,a = some ⟨b,off,none⟩/\∀ j,j < l.length->w4.cell? ⟨b,off + j * 3,none⟩ = some (.int .i64 (sb l j).n)/\w4.cell? ⟨b,off + j * 3 + 1,none⟩ = some (.int .i64 (sb l j).c)/\w4.cell? ⟨b,off + j * 3 + 2,none⟩ = some (.string (sb l j).v)):=hA
  obtain ⟨Jn,hJn⟩ : ∃ Jn,(jn [sc,c]).length = Jn:=⟨_,rfl⟩
  have HJN : Hid ((jn [sc,c]).length = Jn):=hJn
  rw [hJn]
  clear h8 hb4 hrs3 hrc3 hrd3 HG3 HR3 ho ho2 f0 f1 hA hv hJn
  go_upto_region 10 with fail
  clear g1
  go_loopw [12] (fun q wr=>∃ (k : Nat) (a5 : Option Addr) (cap5 : Nat),k<=l.length/\q = .int .i64 k/\wr.heap[w4.heap.size]? = some (.cells #[.slice a4 Jn cap4,.slice a5 (un c (l.take k)).length cap5] 117 (0,0)) /\
    wr.ownsRow w4.heap.size 122 3 (.slice a5 (un c (l.take k)).length cap5) (un c (l.take k)).length (cellsS (un c (l.take k)))/\Below w4.heap.size w4 wr)
   (fun q _=>l.length - (intOf q).toNat)
  case atStart=>exact ⟨0,none,0,Nat.zero_le _,rfl,heap_alloc_new w4 _,World.ownsRow_nil _ _ _ _,(Below.refl _ _).alloc (Nat.le_refl _) _⟩
  case round =>
   obtain ⟨k,a5,cap5,hk,rfl,hQ,ho5,hbr⟩:=hrel
   have hsz:=hbr.size
   have g1:=cell_later hbr HE.out
   by_cases hlt : k < l.length
   ·obtain ⟨b,off,rfl,hr⟩:=HA.out (by omega)
    have q1 : (k : Int) < (l.length : Int):=by omega
    have q0 : (0 : Int)<=(k : Int):=by omega
    have e0:=cell_later hbr (hr k hlt).1
    have e1:=cell_later hbr (hr k hlt).2.1
    have e2:=cell_later hbr (hr k hlt).2.2
    have hdot:=(HK.out.2.2 k hlt).1
    obtain ⟨m,hm⟩ : ∃ m : Nat,(sb l k).n = m:=⟨(sb l k).n.toNat,by have:=hdot.1;omega⟩
    have hm16 : m < 16:=by have:=hdot.2.1;omega
    have c0 : wr.cell? ⟨w2.heap.size,m,none⟩ = some (.int .i64 (cS c (m : Int))):=by
     rw [cell_of_row _ _ _ _ _ _ (heap_later hbr HR4.out),arr_at _ _ hm16,HF.out];rfl
    have hs:=un_snoc c l k hlt
    have HXC : Hid (w4.cell? ⟨b,off + k * 3,none⟩ = some (.int .i64 (sb l k).n)/\w4.cell? ⟨b,off + k * 3 + 1,none⟩ = some (.int .i64 (sb l k).c)/\w4.cell? ⟨b,off + k * 3 + 2,none⟩ = some (.string (sb l k).v)):=hr k hlt
    have hnb : w4.heap.size ≠ b:=Nat.ne_of_gt (World.block_lt_of_cell? w4 _ (hr k hlt).1)
    rw [hm] at hs e0 HXC
    have HS : Hid (un c (l.take (k + 1)) = if (sb l k).c<=cS c (m : Int) then un c (l.take k) else un c (l.take k) ++ [sb l k]):=hs
    obtain ⟨x,hx⟩ : ∃ x,sb l k = x:=⟨_,rfl⟩
    rw [hx] at e1 e2 HS hm HXC
    have HXN : Hid (x.n = m):=hm
    obtain ⟨Cm,hCm⟩ : ∃ Cm,cS c (m : Int) = Cm:=⟨_,rfl⟩
    rw [hCm] at c0 HS
    have hlen:=un_len c l k
    obtain ⟨U,hU⟩ : ∃ U,un c (l.take k) = U:=⟨_,rfl⟩
    rw [hU] at ho5 hQ hlen HS
    obtain ⟨n5,hn5⟩ : ∃ n5,U.length = n5:=⟨_,rfl⟩
    rw [hn5] at ho5 hQ hlen
    have HU5 : Hid (U.length = n5):=hn5
    have HHQ : Hid (wr.heap[w4.heap.size]? = some (.cells #[.slice a4 Jn cap4,.slice a5 n5 cap5] 117 (0,0))):=hQ
    have HO5 : Hid (wr.ownsRow w4.heap.size 122 3 (.slice a5 n5 cap5) n5 (cellsS U)):=ho5
    clear hr hs hx hCm hU hn5 hQ ho5 hdot hm
    by_cases hsn : x.c<=Cm
    ·have gd : ¬ Cm < x.c:=by omega
     have HU : Hid (un c (l.take (k + 1)) = U):=by
      show _ = _
      rw [HS.out,if_pos hsn]
     clear hsn HS
     go_wp2_with fail
     go_quiet (fail)
     go_wp2
     go_roundw
     case rel=>exact ⟨k + 1,a5,cap5,by omega,by go_num,by rw [HU.out,HU5.out];exact HHQ.out,by rw [HU.out,HU5.out];exact HO5.out,by repeat (first | exact hbr | refine below_drewN ?_ _ | refine Below.drew ?_)⟩
     case measure=>simp [intOf];omega
    ·have gd : Cm < x.c:=by omega
     have HU : Hid (un c (l.take (k + 1)) = U ++ [x]):=by
      show _ = _
      rw [HS.out,if_neg hsn]
     clear hsn HS
     go_wp2_with fail
     go_quiet (fail)
     obtain ⟨WD,hWD,hbD⟩ : ∃ WD,wr.drewN nq = WD/\Below wr.heap.size wr WD:=⟨_,rfl,below_drewN (Below.refl _ _) _⟩
     rw [hWD]
     have hbE:=hbr.trans (hbD.mono hsz)
     have hsE:=hbE.size
     have e0':=cell_later hbD e0
     have e1':=cell_later hbD e1
     have e2':=cell_later hbD e2
     have g1':=cell_later hbD g1
     have HHD : Hid (WD.heap[w4.heap.size]? = some (.cells #[.slice a4 Jn cap4,.slice a5 n5 cap5] 117 (0,0))):=heap_later hbD HHQ.out
     have HOD : Hid (WD.ownsRow w4.heap.size 122 3 (.slice a5 n5 cap5) n5 (cellsS U)):=ownsRow_below HO5.out hbD
     have hQ1 : WD.cell? ⟨w4.heap.size,1,none⟩ = some (.slice a5 n5 cap5):=by rw [cell_of_row _ _ _ _ _ _ HHD.out];rfl
     have hal : ∀ o,Below WD.heap.size WD (WD.alloc o):=fun o=>(Below.refl _ _).alloc (Nat.le_refl _) o
     have hQ2 : ∀ o,(WD.alloc o).cell? ⟨w4.heap.size,1,none⟩ = some (.slice a5 n5 cap5):=fun o=>cell_later (hal o) hQ1
     clear e0 e1 e2 g1 c0 hWD HHQ HO5
     have hnw : w4.heap.size ≠ w.heap.size:=Nat.ne_of_gt (World.block_lt_of_cell? w4 _ HE.out)
     go_wp2_with fail
     go_region_law
      ((refine step_append_own rfl _ _ 115 rfl w4.heap.size 122 i0 (.agg #[.int .i64 0,.int .i64 0,.string ByteArray.empty]) 3 32 Tryz.underlying115 hi hz0 hz1 hz2 rfl (by decide) (.slice a5 n5 cap5) n5 (cellsS U) rfl (own_drew (HOD.out.alloc _)) ⟨WD.heap.size,0,none⟩ 1 1 [.int .i64 (m : Int),.int .i64 x.c,.string x.v] rfl rfl (fun j u h=>cells_three_new WD _ _ _ _ j u h) (by intro u hu;simp at hu;rcases hu with rfl | rfl | rfl <;> rfl) (by unfold maxLen;omega) (by omega) (by simp;omega) ?_;intro v7 w5 hown hgrow;obtain ⟨a7,cap7,rfl,hb5,hQ5,s1,s2,hs5⟩:=grow_pack (Below.drew (hbE.alloc hsE _)) (show (WD.alloc _).heap[_]? = _ from (Below.heap_alloc WD _ _ (Array.getElem?_eq_some_iff.1 HHD.out).1).trans HHD.out) (own_drew (HOD.out.alloc _)) hown hgrow;have HP : Hid (w5.ownsRow w4.heap.size 122 3 (.slice a7 (n5 + 1) cap7) (n5 + 1) (cellsS U ++ [.int .i64 (m : Int),.int .i64 x.c,.string x.v])/\Below w4.heap.size w4 w5/\w5.heap[w4.heap.size]? = some (.cells #[.slice a4 Jn cap4,.slice a5 n5 cap5] 117 (0,0))):=⟨hown,hb5,hQ5⟩;clear hown hgrow hQ5 hb5))
     all_goals
      go_wp2
      go_roundw
      case rel =>
       have hp:=pack_end HP.out.2.1 HP.out.2.2 HP.out.1
       have e9 : (un c (l.take (k + 1))).length = n5 + 1:=by rw [HU.out,List.length_append,HU5.out];rfl
       exact ⟨k + 1,a7,cap7,by omega,by go_num,by rw [e9];exact hp.1,by rw [e9,HU.out,cellsS_snoc,HXN.out];exact hp.2.1,hp.2.2⟩
      case measure=>simp [intOf];omega
   ·have he : k = l.length:=by omega
    subst he
    rw [List.take_length] at hQ ho5
    have HGr : Hid (wr.heap[w.heap.size + 1]? = some (.cells nilSet 117 (0,0))):=heap_later hbr HG4.out
    have z0 : wr.cell? ⟨w4.heap.size,0,none⟩ = some (.slice a4 Jn cap4):=by rw [cell_of_row _ _ _ _ _ _ hQ];rfl
    have z1 : wr.cell? ⟨w4.heap.size,1,none⟩ = some (.slice a5 (un c l).length cap5):=by rw [cell_of_row _ _ _ _ _ _ hQ];rfl
    have HO5 : Hid (wr.ownsRow w4.heap.size 122 3 (.slice a5 (un c l).length cap5) (un c l).length (cellsS (un c l))):=ho5
    have HB9 : Hid (Below w.heap.size w wr):=hb04.trans (hbr.mono hs4)
    have HO4 : Hid (wr.ownsRow w.heap.size 183 2 (.slice a4 Jn cap4) Jn (cellsE (jn [sc,c]))):=by
     have h:=ownsRow_below HO.out hbr
     rw [HJN.out] at h
     exact h
    clear hQ ho5 HA hi hz0 hz1 hz2
    go_wp2_with (first
     | (refine wpList_store_row rfl 117 _ _ rfl (w.heap.size + 1) #[.slice a4 Jn cap4,.slice a5 (un c l).length cap5] rfl rfl 117 nilSet HGr.out info38 rfl (one_two _ _ _ _ _ _) ?_))
    refine bodyPost_ret (results28 _ _ (w.heap.size + 1) _ _ 0 rfl rfl (setRow_heap _ _ _ _ _ _ HGr.out)) rfl ⟨below_setRow HB9.out (by omega) _,.inr (.inr ⟨HK.out,HK2.out,H8.out,_,_,rfl,?_,?_⟩)⟩
    ·rw [HJN.out]
     exact own_setRow HO4.out HGr.out (by decide)
    ·exact own_setRow (own_base HO5.out hs4) HGr.out (by decide)
end Go.Proofs.YtilkdeghknjjhaaGreatDoor
