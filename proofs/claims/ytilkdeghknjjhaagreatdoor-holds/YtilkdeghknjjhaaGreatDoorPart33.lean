/- A part of the proof. -/
import Derived.Test.YtilkdeghknjjhaaGreatDoorPart32
import Derived.Test.YtilkdeghknjjhaaGreatDoorPart30
set_option maxRecDepth 20000
set_option maxHeartbeats 3200000
set_option linter.unusedVariables false
namespace Go.Proofs.YtilkdeghknjjhaaGreatDoor
open Go.RowKit M
variable {Z : Nat->Prop} {w : World} {b : Nat} {node : Int} {L : List MuV} {vh : Value}
theorem infoMu : (Tryz.prog.info? 191).map (fun i=>(i.zero,i.size,i.bytes)) = some (some (.agg #[.bool false,.string ByteArray.empty,.string ByteArray.empty,.slice none 0 0]),4,64):=by kernel_rfl
theorem one_cellsMu (a : Bool) (b c : ByteArray) (p : Option Addr) (l q : Nat) : ∀ u ∈ [Value.bool a,.string b,.string c,.slice p l q],u.oneCell' = true:=by
 intro u hu
 simp at hu
 rcases hu with rfl | rfl | rfl | rfl <;> rfl
theorem ModIn.pack {w' : World} {p : Nat} {s : Sd} {v' : Value} {x : MuV} {o : Obj} (h : ModIn Z w p node L vh) (hT : ModT w (L ++ [x])) (hz : ∀ k,w.heap.size<=k->Z k) (hs : SdAt w b s) (hrx : Rd w x.s x.x.c) (hzx : InZ Z x.s) (hg : (w.alloc o).drew.grownBy w' vh.ownBlock)
  (hown : w'.ownsRow 0 191 4 v' (L.length + 1) (cellsM L ++ [.bool x.x.del,.string x.x.k,.string x.x.v,x.s])) (hv : v'.ownBlock = vh.ownBlock\/∀ k,v'.ownBlock = some k->(w.alloc o).drew.heap.size<=k) :
  w'.cell? ⟨p,1,none⟩ = some vh/\(∀ j,w'.frozen? ⟨p,j,none⟩ = false)/\SdAt w' b s/\Hid ((ModIn Z (w'.setCell ⟨p,1,none⟩ v') p node (L ++ [x]) v'/\ModT (w'.setCell ⟨p,1,none⟩ v') (L ++ [x]))/\SdAt (w'.setCell ⟨p,1,none⟩ v') b s/\Tr (fun q=>q = p\/vh.ownBlock = some q) w (w'.setCell ⟨p,1,none⟩ v')):=by
 have ha : Below w.heap.size w (w.alloc o):=(Below.refl _ _).alloc (Nat.le_refl _) o
 have hMa:=h.below ha
 have hTa : ModT (w.alloc o) (L ++ [x]):=fun y hy q hq=>by obtain ⟨cs,hc⟩:=hT y hy q hq;exact ⟨cs,heap_later ha hc⟩
 have hgr : (w.alloc o).grownBy w' vh.ownBlock:=⟨hg.os,hg.tape,hg.output,hg.size,hg.block⟩
 have hp' : w'.heap[p]? = some (.cells #[.int .i64 node,vh] 132 (0,0)):=by
  rw [hgr.block p (Array.getElem?_eq_some_iff.1 hMa.hp).1 (own_not hMa.rh hMa.hp (by decide))]
  exact hMa.hp
 have hsa:=hs.below ha
 have hs' : SdAt w' b s:=(hgr.block b hsa.lt (own_not hMa.rh hsa (by decide))).trans hsa
 have hne : b ≠ p:=fun e=>by
  subst e
  have h1 : some (Obj.cells s.row 134 (0,0)) = some (.cells #[.int .i64 node,vh] 132 (0,0)):=hs.symm.trans h.hp
  simp at h1
 refine ⟨by rw [cell_of_row _ _ _ _ _ _ hp'];rfl,fun j=>frozen_of_row _ _ _ _ _ hp',hs',ModIn.growH hMa hTa (fun k hk=>hz k (by simp at hk;omega)) hgr hown hv (hrx.below ha) hzx,(Below.heap_setCell _ _ _ _ (fun e=>hne e)).trans hs',?_⟩
 have t : Tr (fun q=>q = p\/vh.ownBlock = some q) w w':=((Tr.refl _ w).alloc o).grown hgr (fun k hk _=>.inr hk)
 exact t.setCell (p:=⟨p,1,none⟩) (.inl rfl) _
def Sd.did (s : Sd) (n : Nat) : Sd:=if 0 < s.ev/\s.ev<=s.un + 1 then { s with held:=n,un:=0 } else { s with un:=s.un + 1 }
def DoneOE (Z : Nat->Prop) (w : World) (b m : Nat) (s : Sd) (node : Int) (L : List MuV) (vh : Value) (x : MuV) (en : Ending) (w' : World) : Prop :=
 en = .returned (.bool true)/\SdAt w' b (s.did (L.length + 1))/\(∃ v',ModIn Z w' m node (L ++ [x]) v'/\ModT w' (L ++ [x]))/\Tr (fun q=>q = b\/q = m\/vh.ownBlock = some q) w w'
theorem modSet {p : Nat} {s : Sd} (h : ModIn Z w p node L vh/\ModT w L) (hs : SdAt w b s) (o : Nat) (v : Value) : ModIn Z (w.setCell ⟨b,o,none⟩ v) p node L vh/\ModT (w.setCell ⟨b,o,none⟩ v) L:=by
 have hoth : ∀ (k : Nat) (cs : Array Value) (t : TypeId),w.heap[k]? = some (.cells cs t (0,0))->t ≠ 134->(w.setCell ⟨b,o,none⟩ v).heap[k]? = w.heap[k]?:=fun k cs t hk ht=>Below.heap_setCell _ _ _ _ (fun e=>by
  have e : k = b:=e
  subst e
  have h1:=hk.symm.trans hs
  simp at h1
  exact ht h1.2)
 refine ⟨⟨h.1.zp,(hoth _ _ _ h.1.hp (by decide)).trans h.1.hp,own_setCell h.1.rh hs (by decide),fun y hy=>(h.1.rc y hy).same fun q hq=>?_,h.1.zh,h.1.zc⟩,fun y hy q hq=>?_⟩
 ·obtain ⟨cs,hc⟩:=h.2 y hy q hq
  exact hoth _ _ _ hc (by decide)
 ·obtain ⟨cs,hc⟩:=h.2 y hy q hq
  exact ⟨cs,(hoth _ _ _ hc (by decide)).trans hc⟩
theorem done_ok_any (Zd Z : Nat->Prop) (b p m : Nat) (s : Sd) (D : Dk) (node : Int) (L : List MuV) (vh : Value) (x : MuV) (av : Option Addr) (lv cv : Nat) (f left : Int) (w : World) (h : SdAt w b s) (hd : s.d = .pointer (some ⟨p,0,none⟩)) (hm : s.m = .pointer (some ⟨m,0,none⟩)) (hD : DiskAt Zd w p D)
  (hM : ModIn Z w m node L vh) (hT : ModT w (L ++ [x])) (hz : ∀ k,w.heap.size<=k->Z k) (hxs : x.s = .slice av lv cv) (hrx : Rd w x.s x.x.c) (hzx : InZ Z x.s) (hL : L.length<=1000000) (hun : 0<=s.un) (hun2 : s.un<=1000000) :
  Calls Tryz.prog 113 #[.pointer (some ⟨b,0,none⟩),.agg #[.bool x.x.del,.string x.x.k,.string x.x.v,x.s],.int .i64 0,.int .i64 f,.int .i64 left] w fun en w'=>DoneOE Z w b m s node L vh x en w':=by
 obtain ⟨i0,hi,hi0,hi1,hi2⟩:=info_parts infoMu
 obtain ⟨W,hW,HB,Hrow⟩ : ∃ W,w.alloc (.cells #[.bool x.x.del,.string x.x.k,.string x.x.v,.slice av lv cv] 191) = W/\Hid (Below w.heap.size w W)/\Hid (W.heap[w.heap.size]? = some (.cells #[.bool x.x.del,.string x.x.k,.string x.x.v,.slice av lv cv] 191 (0,0))):=⟨_,rfl,(Below.refl _ _).alloc (Nat.le_refl _) _,heap_alloc_new w _⟩
 have c0 : w.cell? ⟨b,0,none⟩ = some (.pointer (some ⟨p,0,none⟩)):=(h.cell 0).trans (congrArg some hd)
 have HTr : Hid (Calls Tryz.prog 104 #[.pointer (some ⟨b,0,none⟩),.int .i64 f] W fun e w'=>BoolIs (f < D.failed\/D.life = 0) W e w'):=trouble_any Zd b p D f W (cell_later HB.out c0) (hD.below HB.out)
 have HX : Hid (∀ X,Below w.heap.size w X->SdAt X b s/\ModIn Z X m node L vh/\ModT X (L ++ [x])/\Rd X x.s x.x.c):=fun X hX=>⟨h.below hX,hM.below hX,fun y hy q hq=>by obtain ⟨cs,hc⟩:=hT y hy q hq;exact ⟨cs,heap_later hX hc⟩,hrx.below hX⟩
 rw [hxs]
 have HZ : Hid (∀ k,w.heap.size<=k->Z k):=hz
 have HZx : Hid (InZ Z x.s/\x.s = .slice av lv cv):=⟨hzx,hxs⟩
 obtain ⟨ah,qh,hvh⟩:=own_shape hM.rh
 subst hvh
 obtain ⟨⟨x1,x2,x3,x4⟩,x5⟩:=x
 simp only at hxs
 subst hxs
 clear h hd hD hM hT hz hrx hzx c0
 go_enter Tryz.func113,Tryz.ntmps113
 go_upto_region 1 with (fail)
 clear hW
 go_wp2_with fail
 refine HTr.out.mono ?_
 rintro en w2 ⟨may,rfl,_,b2⟩
 have B2:=belowN HB.out b2
 obtain ⟨hs2,hm2,ht2,hr2⟩:=HX.out w2 B2
 have HB2 : Hid (Below w.heap.size w w2/\w2.heap[w.heap.size]? = some (.cells #[.bool x1,.string x2,.string x3,.slice av lv cv] 191 (0,0))):=⟨B2,heap_later b2 Hrow.out⟩
 have m0 : w2.cell? ⟨b,5,none⟩ = some (.pointer (some ⟨m,0,none⟩)):=(hs2.cell 5).trans (congrArg some hm)
 have m1 : w2.cell? ⟨m,1,none⟩ = some (.slice ah L.length qh):=by rw [cell_of_row _ _ _ _ _ _ hm2.hp];rfl
 have hal : ∀ o,Below w2.heap.size w2 (w2.alloc o):=fun o=>(Below.refl _ _).alloc (Nat.le_refl _) o
 have k0 : ∀ o,(w2.alloc o).cell? ⟨b,5,none⟩ = some (.pointer (some ⟨m,0,none⟩)):=fun o=>cell_later (hal o) m0
 have k1 : ∀ o,(w2.alloc o).cell? ⟨m,1,none⟩ = some (.slice ah L.length qh):=fun o=>cell_later (hal o) m1
 have hcell : ∀ o,w2.cell? ⟨w.heap.size,o,none⟩ = #[Value.bool x1,.string x2,.string x3,.slice av lv cv][o]?:=fun o=>by rw [cell_of_row _ _ _ _ _ _ HB2.out.2]
 have t0 : w2.cell? ⟨w.heap.size,0,none⟩ = some (.bool x1):=(hcell 0).trans rfl
 have t1 : w2.cell? ⟨w.heap.size,1,none⟩ = some (.string x2):=(hcell 1).trans rfl
 have t2 : w2.cell? ⟨w.heap.size,2,none⟩ = some (.string x3):=(hcell 2).trans rfl
 have t3 : w2.cell? ⟨w.heap.size,3,none⟩ = some (.slice av lv cv):=(hcell 3).trans rfl
 have HR : Hid (w2.ownsRow 0 191 4 (.slice ah L.length qh) L.length (cellsM L)):=hm2.rh
 have HS2 : Hid (SdAt w2 b s/\ModIn Z w2 m node L (.slice ah L.length qh)/\ModT w2 (L ++ [⟨⟨x1,x2,x3,x4⟩,.slice av lv cv⟩])/\Rd w2 (.slice av lv cv) x4):=⟨hs2,hm2,ht2,hr2⟩
 clear hcell hal hs2 hm2 ht2 hr2 b2 B2
 go_upto_region 4 with (fail)
 go_cut [] from 18 to 33 (fun wx=>Hid (∃ a4 r4,(ModIn Z wx m node (L ++ [⟨⟨x1,x2,x3,x4⟩,.slice av lv cv⟩]) (.slice a4 (L.length + 1) r4)/\ModT wx (L ++ [⟨⟨x1,x2,x3,x4⟩,.slice av lv cv⟩]))/\SdAt wx b s/\Tr (fun q=>q = m\/(Value.slice ah L.length qh).ownBlock = some q) w2 wx))
 case first =>
  go_region_law
   ((refine step_append_keeps rfl _ _ 130 rfl 0 191 i0 (.agg #[.bool false,.string ByteArray.empty,.string ByteArray.empty,.slice none 0 0]) 4 64 Tryz.underlying130 hi hi0 hi1 hi2 rfl (by decide) (.slice ah L.length qh) L.length (cellsM L) rfl (own_drw (HR.out.alloc _)) ⟨w2.heap.size,0,none⟩ 1 1 [.bool x1,.string x2,.string x3,.slice av lv cv] rfl rfl (by decide) (fun j u h=>cells_four_new w2 _ _ _ _ _ j u h) (one_cellsMu x1 x2 x3 av lv cv) (by omega) (by omega) (by omega) ?_);(
    intro v4 w4 hown _ hgrow hv4;obtain ⟨a4,r4,hv4s,_,_,_⟩:=own_cells hown;subst hv4s;obtain ⟨j1,fz4,hs4,HP⟩:=ModIn.pack HS2.out.2.1 HS2.out.2.2.1 (fun k hk=>HZ.out k (by have:=HB2.out.1.size;omega)) HS2.out.1 HS2.out.2.2.2 HZx.out.1 hgrow hown hv4;have j5 : w4.cell? ⟨b,5,none⟩ = some (.pointer (some ⟨m,0,none⟩)):=(hs4.cell 5).trans (congrArg some hm);clear hown hgrow hv4 hs4))
  all_goals (go_wp2_with fail;go_meet;exact ⟨_,_,HP.out⟩)
 case rest =>
  clear HR m0 m1 k0 k1 t0 t1 t2 t3
  obtain ⟨a4,r4,⟨hM4,hT4⟩,hs4,ht4⟩:=hcut.out
  have q8 : wc.cell? ⟨b,8,none⟩ = some (.int .i64 s.un):=(hs4.cell 8).trans rfl
  have fz:=hs4.frozen
  have HW : Hid ((ModIn Z wc m node (L ++ [⟨⟨x1,x2,x3,x4⟩,.slice av lv cv⟩]) (.slice a4 (L.length + 1) r4)/\ModT wc (L ++ [⟨⟨x1,x2,x3,x4⟩,.slice av lv cv⟩]))/\SdAt wc b s/\Tr (fun q=>q = b\/q = m\/(Value.slice ah L.length qh).ownBlock = some q) w wc):=by
   refine ⟨⟨hM4,hT4⟩,hs4,(below_tr HB2.out.1 _).trans ?_⟩
   exact ⟨ht4.os,ht4.tape,ht4.output,ht4.size,fun k hk hz=>ht4.block k hk (fun h=>hz (.inr h))⟩
  clear hM4 hT4 hs4 ht4 hcut HS2 HB2
  go_upto_region 6 with (fail)
  obtain ⟨W5,hW5,HW5⟩ : ∃ W5,wc.setCell ⟨b,8,none⟩ (.int .i64 (s.un + 1)) = W5/\Hid ((ModIn Z W5 m node (L ++ [⟨⟨x1,x2,x3,x4⟩,.slice av lv cv⟩]) (.slice a4 (L.length + 1) r4)/\ModT W5 (L ++ [⟨⟨x1,x2,x3,x4⟩,.slice av lv cv⟩]))/\SdAt W5 b { s with un:=s.un + 1 }/\Tr (fun q=>q = b\/q = m\/(Value.slice ah L.length qh).ownBlock = some q) w W5) :=
   ⟨_,rfl,modSet HW.out.1 HW.out.2.1 8 _,(heap_setCell_self HW.out.2.1 8 _).trans rfl,HW.out.2.2.setCell (p:=⟨b,8,none⟩) (.inl rfl) _⟩
  rw [hW5]
  clear hW5 q8 fz HW
  have q2 : W5.cell? ⟨b,2,none⟩ = some (.int .i64 s.ev):=(HW5.out.2.1.cell 2).trans rfl
  have q8 : W5.cell? ⟨b,8,none⟩ = some (.int .i64 (s.un + 1)):=(HW5.out.2.1.cell 8).trans rfl
  have q7 : W5.cell? ⟨b,7,none⟩ = some (.int .i64 s.held):=(HW5.out.2.1.cell 7).trans rfl
  have q5 : W5.cell? ⟨b,5,none⟩ = some (.pointer (some ⟨m,0,none⟩)):=(HW5.out.2.1.cell 5).trans (congrArg some hm)
  have qm : W5.cell? ⟨m,1,none⟩ = some (.slice a4 (L.length + 1) r4):=by rw [cell_of_row _ _ _ _ _ _ HW5.out.1.1.hp];rfl
  have fz:=HW5.out.2.1.frozen
  have HF : Hid (∀ X,Below W5.heap.size W5 X->(ModIn Z X m node (L ++ [⟨⟨x1,x2,x3,x4⟩,.slice av lv cv⟩]) (.slice a4 (L.length + 1) r4)/\ModT X (L ++ [⟨⟨x1,x2,x3,x4⟩,.slice av lv cv⟩]))/\SdAt X b { s with un:=s.un + 1 }/\Tr (fun q=>q = b\/q = m\/(Value.slice ah L.length qh).ownBlock = some q) w X):=fun X hX =>
   ⟨⟨HW5.out.1.1.below hX,fun y hy q hq=>by obtain ⟨cs,hc⟩:=HW5.out.1.2 y hy q hq;exact ⟨cs,heap_later hX hc⟩⟩,HW5.out.2.1.below hX,HW5.out.2.2.trans (below_tr hX _)⟩
  by_cases g1 : 0 < s.ev
  ·by_cases g2 : s.ev<=s.un + 1
   ·have HDd : Hid (s.did (L.length + 1) = { s with held:=((L.length + 1 : Nat) : Int),un:=0 }):=by show _ = _;unfold Sd.did;rw [if_pos ⟨g1,g2⟩]
    have g1b : decide (0 < s.ev) = true:=by simp [g1]
    have g2b : decide (s.ev<=s.un + 1) = true:=by simp [g2]
    go_quiet (fail)
    go_wp2
    go_ret
    obtain ⟨f1,f2,f3⟩:=HF.out _ (below_drewN (Below.refl W5.heap.size W5) nq)
    have f7 : SdAt ((W5.drewN nq).setCell ⟨b,7,none⟩ (.int .i64 ((L.length + 1 : Nat) : Int))) b { s with held:=((L.length + 1 : Nat) : Int),un:=s.un + 1 }:=(heap_setCell_self f2 7 _).trans rfl
    exact ⟨rfl,by rw [HDd.out];exact (heap_setCell_self f7 8 _).trans rfl,⟨_,modSet (modSet f1 f2 7 _) f7 8 _⟩,(f3.setCell (p:=⟨b,7,none⟩) (.inl rfl) _).setCell (p:=⟨b,8,none⟩) (.inl rfl) _⟩
   ·have HDd : Hid (s.did (L.length + 1) = { s with un:=s.un + 1 }):=by show _ = _;unfold Sd.did;rw [if_neg (fun h=>g2 h.2)]
    have g1b : decide (0 < s.ev) = true:=by simp [g1]
    have g2b : decide (s.ev<=s.un + 1) = false:=by simp [g2]
    go_quiet (fail)
    go_wp2
    go_ret
    obtain ⟨f1,f2,f3⟩:=HF.out _ (below_drewN (Below.refl W5.heap.size W5) nq)
    exact ⟨rfl,by rw [HDd.out];exact f2,⟨_,f1⟩,f3⟩
  ·have HDd : Hid (s.did (L.length + 1) = { s with un:=s.un + 1 }):=by show _ = _;unfold Sd.did;rw [if_neg (fun h=>g1 h.1)]
   have g1b : decide (0 < s.ev) = false:=by simp [g1]
   go_quiet (fail)
   go_wp2
   go_ret
   obtain ⟨f1,f2,f3⟩:=HF.out _ (below_drewN (Below.refl W5.heap.size W5) nq)
   exact ⟨rfl,by rw [HDd.out];exact f2,⟨_,f1⟩,f3⟩
end Go.Proofs.YtilkdeghknjjhaaGreatDoor
