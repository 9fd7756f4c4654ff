/- A part of the proof. -/
import Derived.Laws.Cover1
import Derived.Test.YtilkdeghknjjhaaGreatDoorPart41
set_option maxRecDepth 20000
set_option maxHeartbeats 3200000
set_option linter.unusedVariables false
namespace Go.Proofs.YtilkdeghknjjhaaGreatDoor
open Go.RowKit M
def above (H : List Mu) (last : ByteArray) : Nat:=(H.filter fun x=>bl last x.k).length
theorem above_lt {H : List Mu} {a b : ByteArray} (h : bl a b = true) (hm : ∃ i,i < H.length/\(mu H i).k = b) : above H b < above H a:=by
 unfold above
 have hsub : (H.filter fun x=>bl b x.k).Sublist (H.filter fun x=>bl a x.k):=by
  have e : (H.filter fun x=>bl b x.k) = ((H.filter fun x=>bl a x.k).filter fun x=>bl b x.k):=by
   rw [List.filter_filter]
   apply List.filter_congr
   intro x _
   cases hb : bl b x.k
   ·simp
   ·simp [bl_trans h hb]
  rw [e]
  exact List.filter_sublist
 obtain ⟨i,hi,hk⟩:=hm
 rw [mu_get H i hi] at hk
 have hmem : H[i] ∈ H.filter fun x=>bl a x.k:=List.mem_filter.2 ⟨List.getElem_mem _,by rw [hk];exact h⟩
 have hnot : H[i] ∉ H.filter fun x=>bl b x.k:=fun hh=>by
  have:=(List.mem_filter.1 hh).2
  rw [hk,bl_irr] at this;simp at this
 rcases Nat.lt_or_ge (H.filter fun x=>bl b x.k).length (H.filter fun x=>bl a x.k).length with hlt | hge
 ·exact hlt
 ·have e:=hsub.eq_of_length_le hge
  rw [e] at hnot
  exact absurd hmem hnot
def KeysEnd (node : Int) (H : List Mu) (w : World) (e : Ending) (w' : World) : Prop:=∃ v ks,e = .returned v/\KeysOf node H ks/\OwnX w' w.heap.size v ks/\Below w.heap.size w w'
def mKeys (H : List Mu) (t a : Value) : Nat:=(match t with | .string last=>above H last | _=>0) + (match a with | .bool true=>1 | _=>0)
theorem mKeys_eq (H : List Mu) (last : ByteArray) (b : Bool) : mKeys H (.string last) (.bool b) = above H last + if b = true then 1 else 0:=by cases b <;> rfl
theorem refKeys_any (Z : Nat->Prop) (p : Nat) (node : Int) (L : List MuV) (vh : Value) (w : World) (h : ModIn Z w p node L vh) (hl : L.length<=1000000000) :
  Calls Tryz.prog 105 #[.pointer (some ⟨p,0,none⟩)] w fun e w'=>KeysEnd node (L.map MuV.x) w e w':=by
 obtain ⟨i0,hi,hz0,hz1,hz2⟩:=info_parts infoX
 obtain ⟨ah,ch,rfl,hA⟩:=h.cells
 have c1 : w.cell? ⟨p,1,none⟩ = some (.slice ah L.length ch):=by rw [cell_of_row _ _ _ _ _ _ h.hp];rfl
 have hl1 : (L.length : Int)<=1000000000:=by omega
 have hlm : (L.map MuV.x).length = L.length:=by simp
 have HOf : Hid (∀ w' k,Below w.heap.size w w'->Calls Tryz.prog 166 #[.pointer (some ⟨p,0,none⟩),.string k] w' fun e w''=>∃ r1 r2,e = .returned (.agg #[r1,r2])/\w''.ownsRow w'.heap.size 183 2 r1 (ofM node (L.map MuV.x) k).C.length (cellsE (ofM node (L.map MuV.x) k).C)/\w''.ownsRow w'.heap.size 122 3 r2 (ofM node (L.map MuV.x) k).L.length (cellsS (ofM node (L.map MuV.x) k).L)/\Below w'.heap.size w' w''/\(ofM node (L.map MuV.x) k).C.length<=8/\(ofM node (L.map MuV.x) k).L.length<=6) :=
  fun w' k hb'=>Of_any Z p node L _ k w' (h.below hb') hl
 have HK : Hid (∀ j,j < L.length->∃ g,ah = some ⟨g,0,none⟩/\w.cell? ⟨g,j * 4 + 1,none⟩ = some (.string (mu (L.map MuV.x) j).k)):=by
  intro j hj
  obtain ⟨g,ha,hc⟩:=hA (by omega)
  exact ⟨g,ha,by rw [mu_map L j hj];exact (hc j hj).2.1⟩
 obtain ⟨H,hH⟩ : ∃ H,L.map MuV.x = H:=⟨_,rfl⟩
 rw [hH] at HOf HK hlm
 rw [hH]
 have HLM : Hid (H.length = L.length):=hlm
 clear h hA hH hlm
 go_enter Tryz.func105,Tryz.ntmps105
 go_wp2_with fail
 go_loopw [3,4,5] (fun v t a wr=>∃ (last : ByteArray) (b : Bool) (ks : List ByteArray),t = .string last/\a = .bool b/\Hid (b = true->KeysTo node H last ks)/\Hid (b = false->KeysOf node H ks)/\Hid (ks.length + above H last<=H.length)/\OwnX wr w.heap.size v ks/\Below w.heap.size w wr)
  (fun _ t a _=>mKeys H t a)
 case atStart=>exact ⟨ByteArray.empty,true,[],rfl,rfl,fun _=>KeysTo.start node H,fun h=>Bool.noConfusion h,by show _<=_;unfold above;simp;exact List.length_filter_le _ _,World.ownsRow_nil _ _ _ _,Below.refl _ _⟩
 case round =>
  obtain ⟨last,b,ks,rfl,rfl,hk1,hk2,hkl,ho,hb⟩:=hrel
  have hsz:=hb.size
  cases b
  ·have HO : Hid (KeysOf node H ks):=hk2.out rfl
   go_wp2
   go_ret
   exact ⟨_,ks,rfl,HO.out,ho,hb⟩
  have HT : Hid (KeysTo node H last ks):=hk1.out rfl
  obtain ⟨a3,cap3,hu3⟩:=own_shape ho
  subst hu3
  have HOX : Hid (OwnX wr w.heap.size (.slice a3 ks.length cap3) ks):=ho
  clear hk1 hk2 ho
  go_wp2_with fail
  go_loopw [6,7,8] (fun t i _ wx=>∃ k : Nat,k<=L.length/\i = .int .i64 k/\t = .string (bestTo H last k)/\Below wr.heap.size wr wx) (fun _ i _ _=>L.length - (intOf i).toNat)
  case atStart=>exact ⟨0,Nat.zero_le _,rfl,rfl,Below.refl _ _⟩
  case round =>
   obtain ⟨k,hk,rfl,rfl,hbk⟩:=hrel
   have hb2:=hb.trans (hbk.mono hsz)
   have d1:=cell_later hb2 c1
   by_cases hlt : k < L.length
   ·obtain ⟨g,rfl,hr⟩:=HK.out k hlt
    have e1:=cell_later hb2 hr
    have k0 : (0 : Int)<=(k : Int):=by omega
    have k1 : (k : Int) < (L.length : Int):=by omega
    have HS : Hid (bestTo H last (k + 1) = if (!(Op.bytesLess (mu H k).k.toList last.toList || (mu H k).k.toList == last.toList)) = true/\(((bestTo H last k).toList == ([] : List UInt8)) = true\/Op.bytesLess (mu H k).k.toList (bestTo H last k).toList = true) then (mu H k).k else bestTo H last k):=rfl
    obtain ⟨x,hx⟩ : ∃ x,(mu H k).k = x:=⟨_,rfl⟩
    obtain ⟨y,hy⟩ : ∃ y,bestTo H last k = y:=⟨_,rfl⟩
    rw [hx] at e1
    rw [hx,hy] at HS
    rw [hy]
    clear hr hx hy
    by_cases hg : (!(Op.bytesLess x.toList last.toList || x.toList == last.toList)) = true
    rotate_left
    ·have hg' : (!(Op.bytesLess x.toList last.toList || x.toList == last.toList)) = false:=by simpa using hg
     have HN : Hid (bestTo H last (k + 1) = y):=by show _ = _;rw [HS.out,if_neg (fun h=>hg h.1)]
     clear hg
     go_wp2_with fail
     go_roundw
     case rel=>exact ⟨k + 1,by omega,by go_num,by rw [HN.out],hbk⟩
     case measure=>simp [intOf];omega
    by_cases he : (y.toList == ([] : List UInt8)) = true
    ·have HN : Hid (bestTo H last (k + 1) = x):=by show _ = _;rw [HS.out,if_pos ⟨hg,.inl he⟩]
     go_wp2_with fail
     go_roundw
     case rel=>exact ⟨k + 1,by omega,by go_num,by rw [HN.out],hbk⟩
     case measure=>simp [intOf];omega
    have he' : (y.toList == ([] : List UInt8)) = false:=by simpa using he
    by_cases hl2 : Op.bytesLess x.toList y.toList = true
    ·have HN : Hid (bestTo H last (k + 1) = x):=by show _ = _;rw [HS.out,if_pos ⟨hg,.inr hl2⟩]
     clear he
     go_wp2_with fail
     go_roundw
     case rel=>exact ⟨k + 1,by omega,by go_num,by rw [HN.out],hbk⟩
     case measure=>simp [intOf];omega
    ·have hl2' : Op.bytesLess x.toList y.toList = false:=by simpa using hl2
     have HN : Hid (bestTo H last (k + 1) = y):=by show _ = _;rw [HS.out,if_neg (fun h=>h.2.elim he hl2)]
     clear he hl2
     go_wp2_with fail
     go_roundw
     case rel=>exact ⟨k + 1,by omega,by go_num,by rw [HN.out],hbk⟩
     case measure=>simp [intOf];omega
   ·have k1 : ¬ (k : Int) < (L.length : Int):=by omega
    have hkl2 : k = H.length:=by have:=HLM.out;omega
    have HB : Hid (bestTo H last H.length = bestTo H last k):=by show _ = _;rw [hkl2]
    have hsb:=hb2.size
    obtain ⟨y,hy⟩ : ∃ y,bestTo H last k = y:=⟨_,rfl⟩
    rw [hy] at HB
    rw [hy]
    have HOK : Hid (OwnX wr w.heap.size (.slice a3 ks.length cap3) ks):=own_below HOX.out hbk
    clear hy hkl2
    by_cases he : (y.toList == ([] : List UInt8)) = true
    ·have HE : Hid (y = ByteArray.empty):=(nil_iff y).1 he
     have HKO : Hid (KeysOf node H ks):=HT.out.last (HB.out.trans HE.out)
     go_wp2_with fail
     go_roundw
     case rel=>exact ⟨last,false,ks,rfl,rfl,fun h=>Bool.noConfusion h,fun _=>HKO.out,hkl,HOK.out,hb2⟩
     case measure=>rw [mKeys_eq,mKeys_eq];simp
    ·have he' : (y.toList == ([] : List UInt8)) = false:=by simpa using he
     have HE : Hid (y ≠ ByteArray.empty):=fun h=>he ((nil_iff y).2 h)
     have hn:=HT.out.next HB.out HE.out
     have hab : above H y < above H last:=above_lt hn.1 (by
      rcases bestTo_spec H last H.length (Nat.le_refl _) with ⟨h5,_⟩ | ⟨_,⟨j,hj,hjk⟩,_⟩
      ·exact absurd (HB.out.symm.trans h5) HE.out
      ·exact ⟨j,hj,hjk.trans HB.out⟩)
     have HN : Hid (KeysTo node H y (if (ofM node H y).L ≠ [] then ks ++ [y] else ks)):=hn.2
     have HAB : Hid (above H y < above H last):=hab
     clear he hn hab
     go_wp2_with fail
     refine (HOf.out _ y hb2).mono ?_
     rintro e w5 ⟨r1,r2,rfl,o1,o2,hb5,l1,l2⟩
     obtain ⟨b1,m1,hr1,_⟩:=own_cells o1
     obtain ⟨b2,m2,hr2,_⟩:=own_cells o2
     subst hr1
     subst hr2
     have hb6:=hb2.trans (hb5.mono hsb)
     have hs6:=hb6.size
     have HO5 : Hid (OwnX w5 w.heap.size (.slice a3 ks.length cap3) ks):=own_below HOK.out hb5
     obtain ⟨S,hS⟩ : ∃ S,ofM node H y = S:=⟨_,rfl⟩
     rw [hS] at HN l1 l2
     rw [hS]
     clear hS o1 o2 hb5
     by_cases hne : S.L = []
     ·have HK2 : Hid (KeysTo node H y ks):=by have:=HN.out;rw [if_neg (fun h=>h hne)] at this;exact this
      have hlen : S.L.length = 0:=by rw [hne];rfl
      rw [hlen]
      clear hne hlen HN
      go_wp2_with fail
      go_roundw
      case rel=>exact ⟨y,true,ks,rfl,rfl,fun _=>HK2.out,fun h=>Bool.noConfusion h,by show _<=_;have:=hkl.out;have:=HAB.out;omega,own_below HO5.out ((Below.refl _ _).alloc (Nat.le_refl _) _),hb6.alloc hs6 _⟩
      case measure=>rw [mKeys_eq,mKeys_eq];have:=HAB.out;simp;omega
     ·have HK2 : Hid (KeysTo node H y (ks ++ [y])):=by have:=HN.out;rw [if_pos hne] at this;exact this
      have hlen : 0 < (S.L.length : Int):=by have:=List.length_pos_iff.2 hne;omega
      have hkb : ks.length + 1<=1000000000:=by have:=hkl.out;have:=HAB.out;have:=HLM.out;omega
      obtain ⟨m,hm⟩ : ∃ m,ks.length = m:=⟨_,rfl⟩
      have hoo:=HO5.out
      unfold OwnX at hoo
      rw [hm] at hoo hkb
      rw [hm]
      clear hne HN
      go_upto_region 16 with (fail)
      obtain ⟨WA,hWA,hoA,hbA⟩ : ∃ WA,(w5.alloc (.cells #[.slice b1 S.C.length m1,.slice b2 S.L.length m2] 117)) = WA/\WA.ownsRow w.heap.size 9 1 (.slice a3 m cap3) m (cellsX ks)/\Below w.heap.size w WA :=
       ⟨_,rfl,hoo.alloc _,hb6.alloc hs6 _⟩
      rw [hWA]
      have hsA:=hbA.size
      clear hWA hoo
      go_wp2_with (first
       | (at_builtin;refine wpList_append_own _ rfl _ _ 34 rfl w.heap.size 9 i0 (.string ByteArray.empty) 1 16 Tryz.underlying34 hi hz0 hz1 hz2 rfl (by decide) _ _ _ rfl (hoA.alloc _) ⟨WA.heap.size,0,none⟩ 1 1 [.string y] rfl rfl (cells_one_new _ _ _) (by simp;rfl) (by unfold maxLen;omega) (by omega) (by simp;omega) ?_))
      intro v' w7 hown' hgrow _
      have hb7 : Below w.heap.size w w7:=(hbA.alloc hsA _).grown hgrow (by simp;omega) (fun q hq=>(hoA.lt q hq).1)
      clear hoA hgrow
      go_wp2_with fail
      go_roundw
      case rel=>exact ⟨y,true,ks ++ [y],rfl,rfl,fun _=>HK2.out,fun h=>Bool.noConfusion h,by show _<=_;rw [List.length_append,hm];have h1:=hkl.out;have:=HAB.out;rw [hm] at h1;simp;omega,by unfold OwnX;rw [List.length_append,cellsX_snoc,hm];exact hown',hb7⟩
      case measure=>rw [mKeys_eq,mKeys_eq];have:=HAB.out;simp;omega
end Go.Proofs.YtilkdeghknjjhaaGreatDoor
namespace Go.Proofs.YtilkdeghknjjhaaGreatDoor
open Go.RowKit M
variable {sc : List (Int × Int)}
def Mt.mu (m : Mt) : Mu:=⟨m.del,m.k,m.v,m.c⟩
theorem mu_left (H X : List Mu) (i : Nat) (h : i < H.length) : mu (H ++ X) i = mu H i:=by
 unfold mu;rw [List.getD_eq_getElem?_getD,List.getD_eq_getElem?_getD,List.getElem?_append_left h]
theorem ofTo_left (node : Int) (H X : List Mu) (key : ByteArray) : ∀ i,i<=H.length->ofTo node (H ++ X) key i = ofTo node H key i
 | 0,_=>rfl
 | i + 1,h=>by
  simp only [ofTo]
  rw [ofTo_left node H X key i (by omega),mu_left H X i (by omega)]
theorem ofM_snoc (node : Int) (H : List Mu) (x : Mu) (key : ByteArray) : ofM node (H ++ [x]) key = if (x.k.toList == key.toList) = true then stepM node (ofM node H key) H.length x else ofM node H key:=by
 unfold ofM
 have hl : (H ++ [x]).length = H.length + 1:=by simp
 rw [hl]
 simp only [ofTo]
 rw [ofTo_left node H [x] key H.length (Nat.le_refl _)]
 have : mu (H ++ [x]) H.length = x:=by unfold mu;simp
 rw [this]
theorem outF_mu {nd : Int} {E : Se} {m : Mt} {i : Nat} (h1 : m.node = nd) (h2 : m.count = (i : Int) + 1) : outF E m = outM nd E i m.mu:=by
 unfold outF outM Mt.mu
 rw [h1,h2]
theorem run_of (nd : Int) : ∀ (n : Nat) (ms : List Mt),ms.length = n->GoodM nd zM 0 ms->∀ key,runMt zM ms key = ofM nd (ms.map Mt.mu) key
 | 0,ms,hl,_,key=>by
  have : ms = []:=List.length_eq_zero_iff.1 hl
  subst this;rfl
 | n + 1,ms,hl,hg,key=>by
  rcases List.eq_nil_or_concat ms with rfl | ⟨a,m,rfl⟩
  ·simp at hl
  ·rw [List.concat_eq_append] at hl hg ⊢
   have hla : a.length = n:=by simp at hl;exact hl
   obtain ⟨g1,g2⟩:=(good_app a [m] zM 0).1 hg
   have ih:=run_of nd n a hla g1
   obtain ⟨h1,_⟩:=g2
   rw [runMt_app,List.map_append]
   show stepMt (runMt zM a) m key = ofM nd (a.map Mt.mu ++ [m.mu]) key
   rw [ofM_snoc,List.length_map]
   unfold stepMt keepM upd
   have hk : m.mu.k = m.k:=rfl
   have ho : outF (runMt zM a m.k) m = outM nd (runMt zM a m.k) a.length m.mu:=outF_mu h1.node (by have:=h1.count;omega)
   by_cases e : key = m.k
   ·subst e
    rw [if_pos rfl,hk]
    have hb : (m.k.toList == m.k.toList) = true:=by simp
    rw [hb]
    simp only [if_true]
    rw [ho,<- ih]
    unfold stepM
    rfl
   ·rw [if_neg e,hk,if_neg (fun hh=>e (bytes_eq hh).symm),ih]
theorem decN_iff (c : ByteArray) : decN (bs c) ≠ 0 ↔ ¬ Dec c.data.toList:=by
 unfold decN bs
 by_cases h : Dec c.data.toList
 ·rw [if_pos h];simp [h]
 ·rw [if_neg h];simp [h]
theorem decC_eq {c : ByteArray} (h : Dec c.data.toList) : decC (bs c) = clkT c:=by
 unfold decC bs clkT;rw [if_pos h]
theorem upd_err {c : List (Int × Int)} {l : List Sb} {n k : Int} {s : ByteArray} : (updF sc c l n k s).2.2 = 0\/(updF sc c l n k s).2.2 = 1\/(updF sc c l n k s).2.2 = 5:=by
 obtain ⟨C,L,e,h⟩:=upd_ex sc c l n k s
 rw [updF_eq h]
 rcases h with ⟨_,_,_,rfl⟩ | ⟨_,_,_,_,rfl⟩ | ⟨_,_,_,_,_,rfl⟩ | ⟨_,_,_,p,_,_,_,rfl⟩ <;> simp
theorem dis_err {c : List (Int × Int)} {l : List Sb} : (disF sc c l).2.2 = 0\/(disF sc c l).2.2 = 1\/(disF sc c l).2.2 = 5:=by
 obtain ⟨C,L,e,h⟩:=dis_ex sc c l
 rw [disF_eq h]
 rcases h with ⟨_,_,_,rfl⟩ | ⟨_,_,_,_,_,rfl⟩ | ⟨_,_,_,_,_,rfl⟩ <;> simp
end Go.Proofs.YtilkdeghknjjhaaGreatDoor
namespace Go.Proofs.YtilkdeghknjjhaaGreatDoor
open Go.RowKit M Go.Maps
def St.z : St:=⟨0,0,0,fun _=>Se.nil,0,0,false⟩
def stZ : Array Value:=#[.pointer none,.int .i64 0,.int .i64 0,.int .i64 0,.pointer none,.map none,.int .i64 0,.int .i64 0,.bool false]
theorem infoSto : (Tryz.prog.info? 86).map (·.size) = some 9:=by kernel_rfl
theorem sclose_any (Y : Nat->Prop) (s j : Nat) (dv mv : Value) (n : Nat) (S : St) (w : World) (h : StIn Y w s dv (.pointer (some ⟨j,0,none⟩)) mv n S) :
  Calls Tryz.prog 13 #[.pointer (some ⟨s,0,none⟩)] w fun e w'=>e = .returned (.int .i64 0)/\w'.heap[s]? = some (.cells stZ 86 (0,0))/\Tr (One s) w w':=by
 have HCl : Hid (Calls Tryz.prog 39 #[.pointer (some ⟨s,0,none⟩)] w fun e w'=>e = .returned (.bool false)/\w' = w):=closed_no Y s j _ mv n S w h
 have hs:=h.hs
 have HS : Hid (Tr (One s) w (w.setRow s stZ)/\(w.setRow s stZ).heap[s]? = some (.cells stZ 86 (0,0))):=⟨⟨rfl,rfl,rfl,by simp [World.setRow],fun i hi hz=>setRow_other w s i stZ (fun e=>hz e)⟩,setRow_heap _ _ _ _ _ _ hs⟩
 clear h
 go_enter Tryz.func13,Tryz.ntmps13
 go_wp2_with fail
 refine HCl.out.mono ?_
 rintro e w1 ⟨rfl,rfl⟩
 go_wp2_with (first
  | (refine wpList_store_row rfl 86 _ _ rfl s stZ rfl rfl 86 _ hs infoSto rfl (by simp [Value.oneCell',stZ]) ?_)
  | fail)
 go_ret
 exact ⟨rfl,HS.out.2,HS.out.1⟩
end Go.Proofs.YtilkdeghknjjhaaGreatDoor
namespace Go.Proofs.YtilkdeghknjjhaaGreatDoor
open Go.RowKit M Go.Maps
variable {w : World} {s : Nat}
def ClAt (w : World) (s : Nat) : Prop:=w.heap[s]? = some (.cells stZ 86 (0,0))
theorem ClAt.lt (h : ClAt w s) : s < w.heap.size:=(Array.getElem?_eq_some_iff.1 h).1
theorem ClAt.below {w' : World} (h : ClAt w s) (t : Below w.heap.size w w') : ClAt w' s:=(t.block s h.lt).trans h
theorem ClAt.st (h : ClAt w s) : StIn (One s) w s (.pointer none) (.pointer none) (.map none) 0 St.z :=
 ⟨fun k hk=>by have hk : k = s:=hk;have:=h.lt;omega,rfl,fun k hk=>by simp [mapBlock] at hk,h,⟨fun _=>none,.inl ⟨rfl,fun _=>rfl⟩,fun k=>⟨fun _=>rfl,fun v hv=>by cases hv⟩⟩⟩
theorem cl_closed (s : Nat) (w : World) (h : ClAt w s) :
  Calls Tryz.prog 39 #[.pointer (some ⟨s,0,none⟩)] w fun e w'=>e = .returned (.bool true)/\w' = w:=closed_yes _ s _ _ 0 St.z w h.st
theorem cl_counter (s : Nat) (w : World) (h : ClAt w s) :
  Calls Tryz.prog 27 #[.pointer (some ⟨s,0,none⟩)] w fun e w'=>e = .returned (.int .i64 0)/\w' = w:=counter_any _ s _ _ _ 0 St.z w h.st
theorem cl_keys (s : Nat) (w : World) (h : ClAt w s) :
  Calls Tryz.prog 28 #[.pointer (some ⟨s,0,none⟩)] w fun e w'=>∃ v,e = .returned v/\OwnX w' w.heap.size v []/\Below w.heap.size w w':=by
 refine (skeys_any _ s _ _ _ 0 St.z w h.st (by omega)).mono ?_
 rintro e w' ⟨v,ks,he,hk,ho,hb⟩
 have : ks = []:=by
  cases ks with
  | nil=>rfl
  | cons x r=>exact absurd ((hk.2 x).1 (List.mem_cons_self ..)) (fun h=>h rfl)
 subst this
 exact ⟨v,he,ho,hb⟩
theorem cl_close (s : Nat) (w : World) (h : ClAt w s) :
  Calls Tryz.prog 13 #[.pointer (some ⟨s,0,none⟩)] w fun e w'=>e = .returned (.int .i64 3)/\w' = w:=by
 have HCl : Hid (Calls Tryz.prog 39 #[.pointer (some ⟨s,0,none⟩)] w fun e w'=>e = .returned (.bool true)/\w' = w):=cl_closed s w h
 clear h
 go_enter Tryz.func13,Tryz.ntmps13
 go_wp2_with fail
 refine HCl.out.mono ?_
 rintro e w1 ⟨rfl,rfl⟩
 go_wp2
 go_ret
 exact ⟨rfl,rfl⟩
theorem cl_get (s : Nat) (key : ByteArray) (w : World) (h : ClAt w s) :
  Calls Tryz.prog 29 #[.pointer (some ⟨s,0,none⟩),.string key] w fun e w'=>e = .returned (.tuple #[.slice none 0 0,.string ⟨#[]⟩,.int .i64 3])/\w' = w:=by
 have HCl : Hid (Calls Tryz.prog 39 #[.pointer (some ⟨s,0,none⟩)] w fun e w'=>e = .returned (.bool true)/\w' = w):=cl_closed s w h
 clear h
 go_enter Tryz.func29,Tryz.ntmps29
 go_wp2_with fail
 refine HCl.out.mono ?_
 rintro e w1 ⟨rfl,rfl⟩
 go_wp2
 go_ret3
 exact ⟨rfl,rfl⟩
theorem cl_sync (s : Nat) (w : World) (h : ClAt w s) :
  Calls Tryz.prog 15 #[.pointer (some ⟨s,0,none⟩)] w fun e w'=>e = .returned (.int .i64 3)/\Below w.heap.size w w':=by
 obtain ⟨W,hW,HB,HA⟩ : ∃ W,(w.alloc (.cells #[.int .i64 0] 31)) = W/\Hid (Below w.heap.size w W)/\Hid (W.heap[w.heap.size]? = some (.cells #[.int .i64 0] 31 (0,0))) :=
  ⟨_,rfl,(Below.refl _ _).alloc (Nat.le_refl _) _,heap_alloc_new w _⟩
 have hC:=h.below HB.out
 have HCl : Hid (Calls Tryz.prog 39 #[.pointer (some ⟨s,0,none⟩)] W fun e w'=>e = .returned (.bool true)/\w' = W):=cl_closed s W hC
 have HC : Hid (ClAt W s/\s < w.heap.size):=⟨hC,h.lt⟩
 have f0 : W.cell? ⟨w.heap.size,0,none⟩ = some (.int .i64 0):=by rw [cell_of_row _ _ _ _ _ _ HA.out];rfl
 have z0 : W.frozen? ⟨w.heap.size,0,none⟩ = false:=frozen_of_row _ _ _ _ _ HA.out
 clear h hC
 go_enter_defers Tryz.func15,Tryz.ntmps15
 go_upto_region 1 with (fail)
 clear hW
 go_wp2_with fail
 refine HCl.out.mono ?_
 rintro e w1 ⟨rfl,rfl⟩
 obtain ⟨W4,hW4,HB4,HC4,ha4⟩ : ∃ W4,w1.setCell ⟨w.heap.size,0,none⟩ (.int .i64 3) = W4/\Hid (Below w.heap.size w W4)/\Hid (ClAt W4 s)/\W4.cell? ⟨w.heap.size,0,none⟩ = some (.int .i64 3) :=
  ⟨_,rfl,HB.out.setCell (Nat.le_refl _) _,(Below.heap_setCell _ _ _ _ (fun e=>by have e : s = w.heap.size:=e;have:=HC.out.2;omega)).trans HC.out.1,World.cell?_setCell_same w1 ⟨w.heap.size,0,none⟩ _ f0⟩
 go_wp2
 refine leaves_cons (f:=40) (args:=#[.pointer (some ⟨s,0,none⟩),.pointer (some ⟨w.heap.size,0,none⟩)]) (by simp) (by simp [go_sem]) ?_
 refine (stop_any s w.heap.size false 3 .returning W4 ((HC4.out.st.cell 8).trans rfl) (HC4.out.st.frozen 8) ha4).mono ?_
 rintro e u' w'' ⟨rfl,rfl,h8⟩
 rw [if_neg (by decide)] at h8
 subst h8
 exact ⟨_,result_sync _ _ w.heap.size 3 rfl ha4,rfl,HB4.out⟩
theorem cl_mut (s : Nat) (k v c : ByteArray) (w : World) (h : ClAt w s) :
  Calls Tryz.prog 49 #[.pointer (some ⟨s,0,none⟩),.string k,.string v,.string c] w fun e w'=>MutEnd w (Mt.z,3) e w':=by
 obtain ⟨W,hW,HB,HA⟩ : ∃ W,(w.alloc (.cells mtZ 111)) = W/\Hid (Below w.heap.size w W)/\Hid (W.heap[w.heap.size]? = some (.cells mtZ 111 (0,0))) :=
  ⟨_,rfl,(Below.refl _ _).alloc (Nat.le_refl _) _,heap_alloc_new w _⟩
 have HCl : Hid (Calls Tryz.prog 39 #[.pointer (some ⟨s,0,none⟩)] W fun e w'=>e = .returned (.bool true)/\w' = W):=cl_closed s W (h.below HB.out)
 clear h
 unfold mtZ at hW
 go_enter Tryz.func49,Tryz.ntmps49
 go_upto_region 1 with (fail)
 clear hW
 go_wp2_with fail
 refine HCl.out.mono ?_
 rintro e w1 ⟨rfl,rfl⟩
 go_wp2_with (first
  | (refine wpList_store_row rfl 111 _ _ rfl w.heap.size mtZ rfl rfl 111 mtZ HA.out infoMt rfl (one_mt _ _ _ _ _ _ _ _) ?_))
 exact bodyPost_ret (result_smut _ _ w.heap.size mtZ 3 rfl rfl rfl (setRow_heap _ _ _ _ _ _ HA.out)) rfl (mutEnd_z w _ 3 HB.out HA.out)
theorem cl_put (s : Nat) (k v c : ByteArray) (w : World) (h : ClAt w s) :
  Calls Tryz.prog 25 #[.pointer (some ⟨s,0,none⟩),.string k,.string v,.string c] w fun e w'=>e = .returned (.int .i64 3)/\Below w.heap.size w w':=by
 obtain ⟨W,hW,HB,HA⟩ : ∃ W,(w.alloc (.cells #[.int .i64 0] 31)) = W/\Hid (Below w.heap.size w W)/\Hid (W.heap[w.heap.size]? = some (.cells #[.int .i64 0] 31 (0,0))) :=
  ⟨_,rfl,(Below.refl _ _).alloc (Nat.le_refl _) _,heap_alloc_new w _⟩
 have HW1 : Hid (w.heap.size < W.heap.size):=by show _ < _;rw [<- hW];simp
 have HC : Hid (ClAt W s/\s < w.heap.size):=⟨h.below HB.out,h.lt⟩
 have HM : Hid (Calls Tryz.prog 49 #[.pointer (some ⟨s,0,none⟩),.string k,.string v,.string c] W fun e w'=>∃ a l cap,e = .returned (.tuple #[.agg #[.bool Mt.z.del,.int .i64 Mt.z.node,.int .i64 Mt.z.count,.string Mt.z.k,.slice a l cap,.string Mt.z.v],.int .i64 3])/\Below W.heap.size W w'):=by
  refine (cl_mut s k v c W HC.out.1).mono ?_
  rintro e w' ⟨vc,rfl,hr,_,hb⟩
  obtain ⟨av,cv,rfl⟩:=hr.shape
  exact ⟨_,_,_,rfl,hb⟩
 obtain ⟨m0,hm0⟩ : ∃ x,Mt.z.del = x:=⟨_,rfl⟩
 obtain ⟨m1,hm1⟩ : ∃ x,Mt.z.node = x:=⟨_,rfl⟩
 obtain ⟨m2,hm2⟩ : ∃ x,Mt.z.count = x:=⟨_,rfl⟩
 obtain ⟨m3,hm3⟩ : ∃ x,Mt.z.k = x:=⟨_,rfl⟩
 obtain ⟨m4,hm4⟩ : ∃ x,Mt.z.v = x:=⟨_,rfl⟩
 rw [hm0,hm1,hm2,hm3,hm4] at HM
 clear h hm0 hm1 hm2 hm3 hm4
 go_enter_defers Tryz.func25,Tryz.ntmps25
 go_upto_region 1 with (fail)
 clear hW
 go_wp2_with fail
 refine HM.out.mono ?_
 rintro e w1 ⟨av,lv,cv,rfl,hb1⟩
 obtain ⟨W2,hW2,HB2,HA2⟩ : ∃ W2,w1.alloc (.cells #[.bool m0,.int .i64 m1,.int .i64 m2,.string m3,.slice av lv cv,.string m4] 111) = W2/\Hid (Below W.heap.size W W2)/\Hid (W2.heap[w.heap.size]? = some (.cells #[.int .i64 0] 31 (0,0))) :=
  ⟨_,rfl,belowA hb1,heap_later (belowA hb1) HA.out⟩
 have f0 : W2.cell? ⟨w.heap.size,0,none⟩ = some (.int .i64 0):=by rw [cell_of_row _ _ _ _ _ _ HA2.out];rfl
 have z0 : W2.frozen? ⟨w.heap.size,0,none⟩ = false:=frozen_of_row _ _ _ _ _ HA2.out
 obtain ⟨W3,hW3,HB3,HA3,HC3⟩ : ∃ W3,W2.setCell ⟨w.heap.size,0,none⟩ (.int .i64 3) = W3/\Hid (Below w.heap.size w W3)/\Hid (W3.heap[w.heap.size]? = some (.cells #[.int .i64 3] 31 (0,0)))/\Hid (ClAt W3 s) :=
  ⟨_,rfl,(belowN HB.out HB2.out).setCell (Nat.le_refl _) _,by show _ = _;rw [heap_setCell_self HA2.out];rfl,(Below.heap_setCell _ _ _ _ (fun e=>by have e : s = w.heap.size:=e;have:=HC.out.2;omega)).trans (HC.out.1.below HB2.out)⟩
 have g0 : W3.cell? ⟨w.heap.size,0,none⟩ = some (.int .i64 3):=by rw [cell_of_row _ _ _ _ _ _ HA3.out];rfl
 have g1 : W3.frozen? ⟨w.heap.size,0,none⟩ = false:=frozen_of_row _ _ _ _ _ HA3.out
 clear hb1 HB2 HA2
 go_upto_region 3 with (fail)
 clear hW2 hW3 f0 z0
 obtain ⟨W4,hW4,HB4,HC4,ha4⟩ : ∃ W4,W3.setCell ⟨w.heap.size,0,none⟩ (.int .i64 3) = W4/\Hid (Below w.heap.size w W4)/\Hid (ClAt W4 s)/\W4.cell? ⟨w.heap.size,0,none⟩ = some (.int .i64 3) :=
  ⟨_,rfl,HB3.out.setCell (Nat.le_refl _) _,(Below.heap_setCell _ _ _ _ (fun e=>by have e : s = w.heap.size:=e;have:=HC.out.2;omega)).trans HC3.out,World.cell?_setCell_same W3 ⟨w.heap.size,0,none⟩ _ g0⟩
 go_wp2
 refine leaves_cons (f:=40) (args:=#[.pointer (some ⟨s,0,none⟩),.pointer (some ⟨w.heap.size,0,none⟩)]) (by simp) (by simp [go_sem]) ?_
 refine (stop_any s w.heap.size false 3 .returning W4 ((HC4.out.st.cell 8).trans rfl) (HC4.out.st.frozen 8) ha4).mono ?_
 rintro e u' w'' ⟨rfl,rfl,h8⟩
 rw [if_neg (by decide)] at h8
 subst h8
 exact ⟨_,result_put _ _ w.heap.size 3 rfl ha4,rfl,HB4.out⟩
theorem cl_delete (s : Nat) (k c : ByteArray) (w : World) (h : ClAt w s) :
  Calls Tryz.prog 31 #[.pointer (some ⟨s,0,none⟩),.string k,.string c] w fun e w'=>e = .returned (.int .i64 3)/\Below w.heap.size w w':=by
 obtain ⟨W,hW,HB,HA⟩ : ∃ W,(w.alloc (.cells #[.int .i64 0] 31)) = W/\Hid (Below w.heap.size w W)/\Hid (W.heap[w.heap.size]? = some (.cells #[.int .i64 0] 31 (0,0))) :=
  ⟨_,rfl,(Below.refl _ _).alloc (Nat.le_refl _) _,heap_alloc_new w _⟩
 have HW1 : Hid (w.heap.size < W.heap.size):=by show _ < _;rw [<- hW];simp
 have HC : Hid (ClAt W s/\s < w.heap.size):=⟨h.below HB.out,h.lt⟩
 have HM : Hid (Calls Tryz.prog 49 #[.pointer (some ⟨s,0,none⟩),.string k,.string ⟨#[]⟩,.string c] W fun e w'=>∃ a l cap,e = .returned (.tuple #[.agg #[.bool Mt.z.del,.int .i64 Mt.z.node,.int .i64 Mt.z.count,.string Mt.z.k,.slice a l cap,.string Mt.z.v],.int .i64 3])/\Below W.heap.size W w'):=by
  refine (cl_mut s k ⟨#[]⟩ c W HC.out.1).mono ?_
  rintro e w' ⟨vc,rfl,hr,_,hb⟩
  obtain ⟨av,cv,rfl⟩:=hr.shape
  exact ⟨_,_,_,rfl,hb⟩
 obtain ⟨m0,hm0⟩ : ∃ x,Mt.z.del = x:=⟨_,rfl⟩
 obtain ⟨m1,hm1⟩ : ∃ x,Mt.z.node = x:=⟨_,rfl⟩
 obtain ⟨m2,hm2⟩ : ∃ x,Mt.z.count = x:=⟨_,rfl⟩
 obtain ⟨m3,hm3⟩ : ∃ x,Mt.z.k = x:=⟨_,rfl⟩
 obtain ⟨m4,hm4⟩ : ∃ x,Mt.z.v = x:=⟨_,rfl⟩
 rw [hm0,hm1,hm2,hm3,hm4] at HM
 clear h hm0 hm1 hm2 hm3 hm4
 go_enter_defers Tryz.func31,Tryz.ntmps31
 go_upto_region 1 with (fail)
 clear hW
 go_wp2_with fail
 refine HM.out.mono ?_
 rintro e w1 ⟨av,lv,cv,rfl,hb1⟩
 obtain ⟨W2,hW2,HB2,HA2⟩ : ∃ W2,w1.alloc (.cells #[.bool m0,.int .i64 m1,.int .i64 m2,.string m3,.slice av lv cv,.string m4] 111) = W2/\Hid (Below W.heap.size W W2)/\Hid (W2.heap[w.heap.size]? = some (.cells #[.int .i64 0] 31 (0,0))) :=
  ⟨_,rfl,belowA hb1,heap_later (belowA hb1) HA.out⟩
 have f0 : W2.cell? ⟨w.heap.size,0,none⟩ = some (.int .i64 0):=by rw [cell_of_row _ _ _ _ _ _ HA2.out];rfl
 have z0 : W2.frozen? ⟨w.heap.size,0,none⟩ = false:=frozen_of_row _ _ _ _ _ HA2.out
 obtain ⟨W3,hW3,HB3,HA3,HC3⟩ : ∃ W3,W2.setCell ⟨w.heap.size,0,none⟩ (.int .i64 3) = W3/\Hid (Below w.heap.size w W3)/\Hid (W3.heap[w.heap.size]? = some (.cells #[.int .i64 3] 31 (0,0)))/\Hid (ClAt W3 s) :=
  ⟨_,rfl,(belowN HB.out HB2.out).setCell (Nat.le_refl _) _,by show _ = _;rw [heap_setCell_self HA2.out];rfl,(Below.heap_setCell _ _ _ _ (fun e=>by have e : s = w.heap.size:=e;have:=HC.out.2;omega)).trans (HC.out.1.below HB2.out)⟩
 have g0 : W3.cell? ⟨w.heap.size,0,none⟩ = some (.int .i64 3):=by rw [cell_of_row _ _ _ _ _ _ HA3.out];rfl
 have g1 : W3.frozen? ⟨w.heap.size,0,none⟩ = false:=frozen_of_row _ _ _ _ _ HA3.out
 clear hb1 HB2 HA2
 go_upto_region 3 with (fail)
 clear hW2 hW3 f0 z0
 obtain ⟨W4,hW4,HB4,HC4,ha4⟩ : ∃ W4,W3.setCell ⟨w.heap.size,0,none⟩ (.int .i64 3) = W4/\Hid (Below w.heap.size w W4)/\Hid (ClAt W4 s)/\W4.cell? ⟨w.heap.size,0,none⟩ = some (.int .i64 3) :=
  ⟨_,rfl,HB3.out.setCell (Nat.le_refl _) _,(Below.heap_setCell _ _ _ _ (fun e=>by have e : s = w.heap.size:=e;have:=HC.out.2;omega)).trans HC3.out,World.cell?_setCell_same W3 ⟨w.heap.size,0,none⟩ _ g0⟩
 go_wp2
 refine leaves_cons (f:=40) (args:=#[.pointer (some ⟨s,0,none⟩),.pointer (some ⟨w.heap.size,0,none⟩)]) (by simp) (by simp [go_sem]) ?_
 refine (stop_any s w.heap.size false 3 .returning W4 ((HC4.out.st.cell 8).trans rfl) (HC4.out.st.frozen 8) ha4).mono ?_
 rintro e u' w'' ⟨rfl,rfl,h8⟩
 rw [if_neg (by decide)] at h8
 subst h8
 exact ⟨_,result_del _ _ w.heap.size 3 rfl ha4,rfl,HB4.out⟩
end Go.Proofs.YtilkdeghknjjhaaGreatDoor
namespace Go.Proofs.YtilkdeghknjjhaaGreatDoor
open Go.RowKit M
structure Dk.Sound (D : Dk) : Prop where
 w : D.wait < 0
 l : D.life < 0
def Keeps (D E : Dk) : Prop:=E.Sound/\E.failed = D.failed
theorem Keeps.refl {D : Dk} (h : D.Sound) : Keeps D D:=⟨h,rfl⟩
theorem Keeps.trans {D E F : Dk} (h : Keeps D E) (k : Keeps E F) : Keeps D F:=⟨k.1,k.2.trans h.2⟩
theorem Dk.Sound.may {D : Dk} (h : D.Sound) : D.may = true:=by
 have h1 : ¬ D.life = 0:=by have:=h.l;omega
 have h2 : ¬ D.wait = 0:=by have:=h.w;omega
 unfold Dk.may;simp [h1,h2]
theorem Dk.Sound.chg {D : Dk} (h : D.Sound) : D.chg = D:=by
 have h1 : ¬ 0 < D.life:=by have:=h.l;omega
 have h2 : ¬ 0 < D.wait:=by have:=h.w;omega
 unfold Dk.chg
 rw [if_pos h.may,if_neg h1,if_neg h2]
theorem Dk.Sound.sync {D : Dk} (h : D.Sound) (n : ByteArray) : Keeps D (D.sync n):=by
 unfold Dk.sync
 rw [h.chg]
 split <;> exact ⟨⟨h.w,h.l⟩,rfl⟩
theorem Dk.Sound.syncDir {D : Dk} (h : D.Sound) : Keeps D D.syncDir:=by
 unfold Dk.syncDir
 rw [h.chg]
 split <;> exact ⟨⟨h.w,h.l⟩,rfl⟩
theorem sound_jsl {D : Dk} (h : D.Sound) (J : Jn) : Keeps D (jsl D J).2:=by
 unfold jsl
 split
 ·exact Keeps.refl h
 ·exact h.sync _
theorem sound_jsync {D : Dk} (h : D.Sound) (J : Jn) : Keeps D (jsync D J).2:=by
 have h1:=sound_jsl h J
 unfold jsync
 split
 ·exact h1.trans h1.1.syncDir
 ·exact h1
theorem stopF_D (q : Int × Dk × Jn × St) : (stopF q).2.1 = q.2.1:=by unfold stopF;split <;> rfl
end Go.Proofs.YtilkdeghknjjhaaGreatDoor
