/- A part of the proof. -/
import Derived.Test.YtilkdeghknjjhaaGreatDoorPart13
import Derived.Deep.DeepCutAuto
set_option maxRecDepth 20000
set_option maxHeartbeats 3200000
set_option linter.unusedVariables false
namespace Go.Proofs.YtilkdeghknjjhaaGreatDoor
open Go.RowKit
def doA (s : Stp) (p k : Nat) : List Nm:=if ((k : Int) == (p : Int)) = true/\(s.k != 3) = true then [⟨s.to,s.f⟩] else []
def doB (s : Stp) (x : Nm) : List Nm:=if (x.n.toList == s.fr.toList) = false/\((s.k == 3) = true\/(x.n.toList == s.to.toList) = false) then [x] else []
def doTo (l : List Nm) (s : Stp) : Nat->List Nm
 | 0=>[]
 | k + 1=>doTo l s k ++ doA s (fd l s.to) k ++ doB s (nm l k)
def doS (l : List Nm) (s : Stp) : List Nm:=doTo l s l.length ++ doA s (fd l s.to) l.length
theorem doA_len (s : Stp) (p k : Nat) : (doA s p k).length<=1:=by unfold doA;split <;> simp
theorem doB_len (s : Stp) (x : Nm) : (doB s x).length<=1:=by unfold doB;split <;> simp
theorem doTo_len (l : List Nm) (s : Stp) : ∀ k,(doTo l s k).length<=2 * k
 | 0=>by simp [doTo]
 | k + 1=>by
  have:=doTo_len l s k
  have:=doA_len s (fd l s.to) k
  have:=doB_len s (nm l k)
  simp only [doTo,List.length_append];omega
theorem do_any (v : Value) (l : List Nm) (s : Stp) (w : World) (hrd : RdN w v l) (hl : l.length<=1000000000) :
  Calls Tryz.prog 43 #[v,.agg #[.int .i64 s.k,.string s.fr,.string s.to,.int .i64 s.f]] w fun e w'=>∃ v',e = .returned v'/\w'.ownsRow w.heap.size 102 2 v' (doS l s).length (cellsN (doS l s))/\Below w.heap.size w w':=by
 obtain ⟨i0,hi,hz0,hz1,hz2⟩:=info_parts infoNm
 obtain ⟨a,cap,rfl,hlc,hc,hA⟩:=hrd.cells
 have hl1 : (l.length : Int)<=1000000000:=by omega
 clear hlc hc
 go_enter Tryz.func43,Tryz.ntmps43
 go_wp2_with fail
 obtain ⟨W0,hW0,hb0,t0,t1,t2,t3⟩ : ∃ W0,(w.alloc (.cells #[.int .i64 s.k,.string s.fr,.string s.to,.int .i64 s.f] 97)) = W0/\Below w.heap.size w W0 /\
   W0.cell? ⟨w.heap.size,0,none⟩ = some (.int .i64 s.k)/\W0.cell? ⟨w.heap.size,1,none⟩ = some (.string s.fr)/\W0.cell? ⟨w.heap.size,2,none⟩ = some (.string s.to)/\W0.cell? ⟨w.heap.size,3,none⟩ = some (.int .i64 s.f) :=
  ⟨_,rfl,(Below.refl _ _).alloc (Nat.le_refl _) _,by simp [go_sem],by simp [go_sem],by simp [go_sem],by simp [go_sem]⟩
 rw [hW0]
 clear hW0
 go_wp2_with fail
 refine (find_any _ l s.to W0 (own_below hrd hb0) hl).mono ?_
 rintro e W ⟨rfl,hbW⟩
 have HT : Hid (W.cell? ⟨w.heap.size,0,none⟩ = some (.int .i64 s.k)/\W.cell? ⟨w.heap.size,1,none⟩ = some (.string s.fr)/\W.cell? ⟨w.heap.size,2,none⟩ = some (.string s.to)/\W.cell? ⟨w.heap.size,3,none⟩ = some (.int .i64 s.f)) :=
  ⟨cell_later hbW t0,cell_later hbW t1,cell_later hbW t2,cell_later hbW t3⟩
 have HB : Hid (Below w.heap.size w W):=hb0.trans (hbW.mono hb0.size)
 have hsW : w.heap.size<=W.heap.size:=HB.out.size
 clear t0 t1 t2 t3 hbW hb0
 go_wp2_with fail
 go_loopw [5,8] (fun p q wr=>∃ k : Nat,k<=l.length/\q = .int .i64 k/\wr.ownsRow W.heap.size 102 2 p (doTo l s k).length (cellsN (doTo l s k))/\Below W.heap.size W wr) (fun _ q _=>l.length - (intOf q).toNat)
 case atStart=>exact ⟨0,Nat.zero_le _,rfl,World.ownsRow_nil _ _ _ _,Below.refl _ _⟩
 case round =>
  obtain ⟨k,hk,rfl,ho,hb⟩:=hrel
  have hsz:=hb.size
  have d0:=cell_later hb HT.out.1
  have d1:=cell_later hb HT.out.2.1
  have d2:=cell_later hb HT.out.2.2.1
  have d3:=cell_later hb HT.out.2.2.2
  obtain ⟨a5,cap5,hu5⟩:=own_shape ho
  subst hu5
  have hlen:=doTo_len l s k
  by_cases hlt : k < l.length
  ·obtain ⟨g,rfl,hr⟩:=hA (by omega)
   have q1 : (k : Int) < (l.length : Int):=by omega
   have q0 : (0 : Int)<=(k : Int):=by omega
   have HR : Hid (W.cell? ⟨g,k * 2,none⟩ = some (.string (nm l k).n)/\W.cell? ⟨g,k * 2 + 1,none⟩ = some (.int .i64 (nm l k).f)):=⟨cell_later HB.out (hr k hlt).1,cell_later HB.out (hr k hlt).2⟩
   have HS : Hid (doTo l s (k + 1) = doTo l s k ++ doA s (fd l s.to) k ++ doB s (nm l k)):=rfl
   obtain ⟨x,hx⟩ : ∃ x,nm l k = x:=⟨_,rfl⟩
   rw [hx] at HR HS
   obtain ⟨U,hU⟩ : ∃ U,doTo l s k = U:=⟨_,rfl⟩
   rw [hU] at ho hlen HS
   rw [hU]
   obtain ⟨pp,hpp⟩ : ∃ pp,fd l s.to = pp:=⟨_,rfl⟩
   rw [hpp] at HS
   rw [hpp]
   clear hA hr hx hU hpp
   go_upto_region 6 with (fail)
   obtain ⟨B,hB⟩ : ∃ B : Bool,(((k : Int) == (pp : Int)) && (s.k != 3)) = B:=⟨_,rfl⟩
   have HB1 : Hid ((((k : Int) == (pp : Int)) && (s.k != 3)) = B):=hB
   have HD : Hid (doA s pp k = if B = true then [⟨s.to,s.f⟩] else []):=by
    show doA s pp k = _
    rw [<- hB];unfold doA;simp
   clear hB
   go_cut [29] from 22 to 29 (fun s29 wx=>s29 = .bool B/\wx = wr)
   case first =>
    by_cases hp : ((k : Int) == (pp : Int)) = true
    ·go_wp2_with fail
     go_meet
     exact ⟨by rw [<- HB1.out,hp];rfl,rfl⟩
    ·have hp' : ((k : Int) == (pp : Int)) = false:=by simpa using hp
     clear hp
     go_wp2_with fail
     go_meet
     exact ⟨by rw [<- HB1.out,hp'];rfl,rfl⟩
   case rest =>
   obtain ⟨rfl,rfl⟩:=hcut
   go_upto_if 29 with fail
   go_cut [5] from 30 to 37 (fun s5 wx=>wx.ownsRow W.heap.size 102 2 s5 (U ++ doA s pp k).length (cellsN (U ++ doA s pp k))/\Below W.heap.size W wx)
   case first =>
    cases B
    ·go_wp2_with fail
     go_meet
     exact ⟨by rw [HD.out,if_neg (by decide),List.append_nil];exact ho,hb⟩
    ·go_wp2_with (first
      | (at_builtin;refine wpList_append_own _ rfl _ _ 91 rfl W.heap.size 102 i0 (.agg #[.string ByteArray.empty,.int .i64 0]) 2 24 Tryz.underlying91 hi hz0 hz1 hz2 rfl (by decide) _ _ _ rfl (ho.alloc _) ⟨_,0,none⟩ 1 1 [.string s.to,.int .i64 s.f] rfl rfl (cells_two_new _ _ _ _) (one_cellsN [⟨s.to,s.f⟩]) (by unfold maxLen;omega) (by omega) (by simp;omega) ?_))
     intro v' w2 hown' hgrow _
     have hb3:=(hb.alloc (by omega) _).grown hgrow (by simp;omega) (fun q hq=>(ho.lt q hq).1)
     clear ho hb hgrow
     go_wp2_with fail
     go_meet
     exact ⟨by rw [HD.out];simp only [if_true,List.length_append,cellsN_snoc];exact hown',hb3⟩
   case rest =>
   obtain ⟨ho2,hb2⟩:=hcut
   have hA1:=doA_len s pp k
   obtain ⟨U2,hU2⟩ : ∃ U2,U ++ doA s pp k = U2:=⟨_,rfl⟩
   have hlen2 : U2.length<=2 * k + 1:=by rw [<- hU2,List.length_append];omega
   rw [hU2] at ho2 HS
   obtain ⟨a6,cap6,hu6⟩:=own_shape ho2
   subst hu6
   have hsz2:=hb2.size
   have d0:=cell_later hb2 HT.out.1
   have d1:=cell_later hb2 HT.out.2.1
   have d2:=cell_later hb2 HT.out.2.2.1
   have e0:=cell_later hb2 HR.out.1
   have e1:=cell_later hb2 HR.out.2
   clear ho hb hU2 HD HB1 hA1
   by_cases hP : (x.n.toList == s.fr.toList) = false
   ·by_cases h3 : (s.k == 3) = true
    ·have HD : Hid (doB s x = [x]):=by show doB s x = _;unfold doB;rw [if_pos ⟨hP,.inl h3⟩]
     go_upto_region 8 with (fail)
     go_quiet (fail)
     obtain ⟨WD,hWD,hoD,hbD,e0D,e1D⟩ : ∃ WD,_ = WD/\WD.ownsRow W.heap.size 102 2 (.slice a6 U2.length cap6) U2.length (cellsN U2)/\Below W.heap.size W WD/\WD.cell? ⟨g,k * 2,none⟩ = some (.string x.n)/\WD.cell? ⟨g,k * 2 + 1,none⟩ = some (.int .i64 x.f) :=
      ⟨_,rfl,ho2,below_drewN hb2 nq,e0,e1⟩
     rw [hWD]
     have hszD:=hbD.size
     clear hWD e0 e1 d0 d1 d2 ho2 hb2
     go_wp2_with (first
      | (at_builtin;refine wpList_append_own _ rfl _ _ 91 rfl W.heap.size 102 i0 (.agg #[.string ByteArray.empty,.int .i64 0]) 2 24 Tryz.underlying91 hi hz0 hz1 hz2 rfl (by decide) _ _ _ rfl (hoD.alloc _) ⟨_,0,none⟩ 1 1 [.string x.n,.int .i64 x.f] rfl rfl (cells_two_new _ _ _ _) (one_cellsN [x]) (by unfold maxLen;omega) (by omega) (by simp;omega) ?_))
     intro v' w2 hown' hgrow _
     have hb3:=(hbD.alloc (by omega) _).grown hgrow (by simp;omega) (fun q hq=>(hoD.lt q hq).1)
     clear hoD hbD hgrow
     go_wp2_with fail
     go_roundw
     case rel=>exact ⟨k + 1,by omega,by go_num,by rw [HS.out,HD.out,List.length_append,cellsN_snoc];exact hown',hb3⟩
     case measure=>simp [intOf];omega
    ·have h3' : (s.k == 3) = false:=by simpa using h3
     clear h3
     by_cases hQ : (x.n.toList == s.to.toList) = false
     ·have HD : Hid (doB s x = [x]):=by show doB s x = _;unfold doB;rw [if_pos ⟨hP,.inr hQ⟩]
      go_upto_region 8 with (fail)
      go_quiet (fail)
      obtain ⟨WD,hWD,hoD,hbD,e0D,e1D⟩ : ∃ WD,_ = WD/\WD.ownsRow W.heap.size 102 2 (.slice a6 U2.length cap6) U2.length (cellsN U2)/\Below W.heap.size W WD/\WD.cell? ⟨g,k * 2,none⟩ = some (.string x.n)/\WD.cell? ⟨g,k * 2 + 1,none⟩ = some (.int .i64 x.f) :=
       ⟨_,rfl,ho2,below_drewN hb2 nq,e0,e1⟩
      rw [hWD]
      have hszD:=hbD.size
      clear hWD e0 e1 d0 d1 d2 ho2 hb2
      go_wp2_with (first
       | (at_builtin;refine wpList_append_own _ rfl _ _ 91 rfl W.heap.size 102 i0 (.agg #[.string ByteArray.empty,.int .i64 0]) 2 24 Tryz.underlying91 hi hz0 hz1 hz2 rfl (by decide) _ _ _ rfl (hoD.alloc _) ⟨_,0,none⟩ 1 1 [.string x.n,.int .i64 x.f] rfl rfl (cells_two_new _ _ _ _) (one_cellsN [x]) (by unfold maxLen;omega) (by omega) (by simp;omega) ?_))
      intro v' w2 hown' hgrow _
      have hb3:=(hbD.alloc (by omega) _).grown hgrow (by simp;omega) (fun q hq=>(hoD.lt q hq).1)
      clear hoD hbD hgrow
      go_wp2_with fail
      go_roundw
      case rel=>exact ⟨k + 1,by omega,by go_num,by rw [HS.out,HD.out,List.length_append,cellsN_snoc];exact hown',hb3⟩
      case measure=>simp [intOf];omega
     ·have HD : Hid (doB s x = []):=by show doB s x = _;unfold doB;rw [if_neg (fun h=>h.2.elim (fun h=>by rw [h3'] at h;exact Bool.noConfusion h) hQ)]
      have hQ' : (x.n.toList == s.to.toList) = true:=by simpa using hQ
      clear hQ
      go_upto_region 8 with (fail)
      go_quiet (fail)
      go_wp2_with fail
      go_roundw
      case rel=>exact ⟨k + 1,by omega,by go_num,by rw [HS.out,HD.out,List.append_nil];exact ho2,below_drewN hb2 nq⟩
      case measure=>simp [intOf];omega
   ·have HD : Hid (doB s x = []):=by show doB s x = _;unfold doB;rw [if_neg (fun h=>hP h.1)]
    have hP' : (x.n.toList == s.fr.toList) = true:=by simpa using hP
    clear hP
    go_upto_region 8 with (fail)
    go_quiet (fail)
    go_wp2_with fail
    go_roundw
    case rel=>exact ⟨k + 1,by omega,by go_num,by rw [HS.out,HD.out,List.append_nil];exact ho2,below_drewN hb2 nq⟩
    case measure=>simp [intOf];omega
  ·have q1 : ¬ (k : Int) < (l.length : Int):=by omega
   have hkl : k = l.length:=by omega
   rw [hkl] at ho hlen
   have HS : Hid (doS l s = doTo l s l.length ++ doA s (fd l s.to) l.length):=rfl
   obtain ⟨pp,hpp⟩ : ∃ pp,fd l s.to = pp:=⟨_,rfl⟩
   rw [hpp] at HS
   rw [hpp]
   obtain ⟨U,hU⟩ : ∃ U,doTo l s l.length = U:=⟨_,rfl⟩
   rw [hU] at ho hlen HS
   rw [hkl,hU]
   rw [hkl] at q1
   clear hA hpp hU hkl
   by_cases hp : ((pp : Int) == (l.length : Int)) = true
   ·have hp2 : ((l.length : Int) == (pp : Int)) = true:=by simp at hp ⊢;omega
    by_cases h3 : (s.k != 3) = true
    ·have HD : Hid (doA s pp l.length = [⟨s.to,s.f⟩]):=by show doA s pp _ = _;unfold doA;rw [if_pos ⟨hp2,h3⟩]
     clear hp2
     go_wp2_with (first
      | (at_builtin;refine wpList_append_own _ rfl _ _ 91 rfl W.heap.size 102 i0 (.agg #[.string ByteArray.empty,.int .i64 0]) 2 24 Tryz.underlying91 hi hz0 hz1 hz2 rfl (by decide) _ _ _ rfl (ho.alloc _) ⟨_,0,none⟩ 1 1 [.string s.to,.int .i64 s.f] rfl rfl (cells_two_new _ _ _ _) (one_cellsN [⟨s.to,s.f⟩]) (by unfold maxLen;omega) (by omega) (by simp;omega) ?_))
     intro v' w2 hown' hgrow _
     have hb3:=(hb.alloc (by omega) _).grown hgrow (by simp;omega) (fun q hq=>(ho.lt q hq).1)
     have hb4:=HB.out.trans (hb3.mono hsW)
     clear ho hb hgrow hb3
     go_wp2_with fail
     go_ret
     exact ⟨_,rfl,by rw [HS.out,HD.out,List.length_append,cellsN_snoc];exact own_base hown' hsW,hb4⟩
    ·have HD : Hid (doA s pp l.length = []):=by show doA s pp _ = _;unfold doA;rw [if_neg (fun h=>h3 h.2)]
     have h3' : (s.k != 3) = false:=by simpa using h3
     have hb4:=HB.out.trans (hb.mono hsW)
     clear hp2 h3
     go_wp2_with fail
     go_ret
     exact ⟨_,rfl,by rw [HS.out,HD.out,List.append_nil];exact own_base ho hsW,hb4⟩
   ·have hp2 : ¬ ((l.length : Int) == (pp : Int)) = true:=by simp at hp ⊢;omega
    have hp' : ((pp : Int) == (l.length : Int)) = false:=by simpa using hp
    have HD : Hid (doA s pp l.length = []):=by show doA s pp _ = _;unfold doA;rw [if_neg (fun h=>hp2 h.1)]
    have hb4:=HB.out.trans (hb.mono hsW)
    clear hp2 hp
    go_wp2_with fail
    go_ret
    exact ⟨_,rfl,by rw [HS.out,HD.out,List.append_nil];exact own_base ho hsW,hb4⟩
end Go.Proofs.YtilkdeghknjjhaaGreatDoor
