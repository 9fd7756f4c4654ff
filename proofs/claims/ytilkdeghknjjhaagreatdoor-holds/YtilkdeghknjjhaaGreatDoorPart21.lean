/- A part of the proof. -/
import Derived.Test.YtilkdeghknjjhaaGreatDoorPart20
import Derived.Test.YtilkdeghknjjhaaGreatDoorPart19
set_option maxRecDepth 20000
set_option maxHeartbeats 3200000
set_option linter.unusedVariables false
namespace Go.Proofs.YtilkdeghknjjhaaGreatDoor
open Go.RowKit M
variable {Y Z : Nat->Prop} {w w' : World} {v s0 s1 u : Value} {p : Nat} {L M : List Value}
theorem AllX.tr {m : ByteArray} (h : AllX w v m) (t : Tr Y w w') (hz : InZ (fun k=>¬ Y k) v) : AllX w' v m:=by
 obtain ⟨a,n,cap,hv,hn,hc⟩:=h
 refine ⟨a,n,cap,hv,hn,fun h0=>?_⟩
 obtain ⟨g,cs,ha,hg,hc⟩:=hc h0
 exact ⟨g,cs,ha,t.heap hg (hz g (by rw [hv,ha];rfl)),hc⟩
def vl (l : List Value) (i : Nat) : Value:=l.getD i undef
theorem vl_get (l : List Value) (i : Nat) (h : i < l.length) : vl l i = l[i]:=by simp [vl,List.getD,List.getElem?_eq_getElem h]
theorem vl_at (l : List Value) (i : Nat) (h : i < l.length) : l[i]? = some (vl l i):=by rw [vl_get l i h];exact List.getElem?_eq_getElem h
structure WorldIn (Z : Nat->Prop) (w : World) (p : Nat) (s0 s1 : Value) (L M : List Value) (v u : Value) : Prop where
 zp : Z p
 hp : w.heap[p]? = some (.cells #[s0,s1,v,u] 74 (0,0))
 rl : w.ownsRow 0 34 1 v L.length L
 rm : w.ownsRow 0 34 1 u M.length M
 al : ∀ i,i < L.length->AllX w (vl L i) (markF ((i : Int) + 1))/\InZ Z (vl L i)
 am : ∀ i,i < M.length->AllX w (vl M i) (markF ((i : Int) / 3 + 1))/\InZ Z (vl M i)
 zl : InZ Z v
 zm : InZ Z u
 ap : v.ownBlock = none\/v.ownBlock ≠ u.ownBlock
 bl : ∀ i,i < L.length->∀ k,(vl L i).ownBlock = some k->k < w.heap.size
 bm : ∀ i,i < M.length->∀ k,(vl M i).ownBlock = some k->k < w.heap.size
theorem WorldIn.tr (h : WorldIn Z w p s0 s1 L M v u) (t : Tr Y w w') (hd : ∀ k,Z k->¬ Y k) : WorldIn Z w' p s0 s1 L M v u :=
 ⟨h.zp,t.heap h.hp (hd _ h.zp),own_tr h.rl t (fun k hk=>hd k (h.zl k hk)),own_tr h.rm t (fun k hk=>hd k (h.zm k hk)),
  fun i hi=>⟨(h.al i hi).1.tr t (fun k hk=>hd k ((h.al i hi).2 k hk)),(h.al i hi).2⟩,fun i hi=>⟨(h.am i hi).1.tr t (fun k hk=>hd k ((h.am i hi).2 k hk)),(h.am i hi).2⟩,h.zl,h.zm,h.ap,fun i hi k hk=>Nat.lt_of_lt_of_le (h.bl i hi k hk) t.size,fun i hi k hk=>Nat.lt_of_lt_of_le (h.bm i hi k hk) t.size⟩
theorem WorldIn.below (h : WorldIn Z w p s0 s1 L M v u) (t : Below w.heap.size w w') : WorldIn Z w' p s0 s1 L M v u :=
 h.tr (below_tr t (fun _=>False)) (fun _ _ h=>h)
theorem looks_any (Z : Nat->Prop) (p : Nat) (s0 s1 : Value) (L M : List Value) (v u : Value) (w : World) (h : WorldIn Z w p s0 s1 L M v u) (hl : L.length<=20000000000) (hlm : M.length = 3 * L.length) :
  Calls Tryz.prog 36 #[.pointer (some ⟨p,0,none⟩)] w fun e w'=>e = .returned (.bool true)/\Below w.heap.size w w':=by
 obtain ⟨a1,q1,hv1,_,_,hA⟩:=own_cells h.rl
 obtain ⟨a2,q2,hv2,_,_,hB⟩:=own_cells h.rm
 subst hv1
 subst hv2
 have c2 : w.cell? ⟨p,2,none⟩ = some (.slice a1 L.length q1):=by rw [cell_of_row _ _ _ _ _ _ h.hp];rfl
 have c3 : w.cell? ⟨p,3,none⟩ = some (.slice a2 M.length q2):=by rw [cell_of_row _ _ _ _ _ _ h.hp];rfl
 have hl1 : (L.length : Int)<=20000000000:=by omega
 have hm1 : (M.length : Int)<=60000000000:=by omega
 have HW : Hid (WorldIn Z w p s0 s1 L M (.slice a1 L.length q1) (.slice a2 M.length q2)):=h
 clear h
 go_enter Tryz.func36,Tryz.ntmps36
 go_wp2_with fail
 go_loopw [3] (fun i wr=>∃ k : Nat,k<=L.length/\i = .int .i64 k/\Below w.heap.size w wr) (fun i _=>L.length - (intOf i).toNat)
 case atStart=>exact ⟨0,Nat.zero_le _,rfl,Below.refl _ _⟩
 case round =>
  obtain ⟨k,hk,rfl,hb⟩:=hrel
  have hsz:=hb.size
  have d2:=cell_later hb c2
  have d3:=cell_later hb c3
  by_cases hlt : k < L.length
  ·obtain ⟨g,rfl,_,hr⟩:=hA (by omega)
   have e1:=cell_later hb (hr _ _ (vl_at L k hlt))
   obtain ⟨xa,xn,xc,hx,_,_⟩:=(HW.out.al k hlt).1
   have HX : Hid (∀ w',Below w.heap.size w w'->AllX w' (vl L k) (markF ((k : Int) + 1))):=fun w' hb'=>(HW.out.al k hlt).1.below hb'
   rw [hx] at e1 HX
   have k0 : (0 : Int)<=(k : Int):=by omega
   have k1 : (k : Int) < (L.length : Int):=by omega
   have HMk : Hid (∀ w',Calls Tryz.prog 68 #[.int .i64 (IntKind.i64.wrap ((k : Int) + 1))] w' fun e w''=>e = .returned (.string (markF ((k : Int) + 1)))/\Below w'.heap.size w' w''):=by
    intro w'
    rw [wrap_in ((k : Int) + 1) (by omega) (by omega)]
    exact mark_any _ w' (by omega) (by omega)
   have HMd : Hid (∀ w',Below wr.heap.size wr w'->Calls Tryz.prog 67 #[.slice xa xn xc,.string (markF ((k : Int) + 1))] w' fun e w''=>e = .returned (.bool true)/\Below w'.heap.size w' w'') :=
    fun w' hb'=>marked_any _ _ w' (HX.out w' (hb.trans (hb'.mono hsz)))
   obtain ⟨mk,hmk⟩ : ∃ mk,markF ((k : Int) + 1) = mk:=⟨_,rfl⟩
   rw [hmk] at HMk HMd
   clear hr hx HX hmk hA hB
   go_wp2_with fail
   go_region_with (first
    | (go_at_call 68;refine (HMk.out _).mono ?_;rintro e w5 ⟨rfl,hb5'⟩;have hb5 : Below wr.heap.size wr w5:=(by repeat (first | exact hb5' | exact Below.refl _ _ | refine Below.trans ?_ hb5' | refine Below.drew ?_ | refine below_drewN ?_ _));have x2:=cell_later hb5 d2;have x1:=cell_later hb5 e1;clear hb5')
    | (go_at_call 67;refine (HMd.out _ hb5).mono ?_;rintro e w6 ⟨rfl,hb6'⟩;have hb6 : Below wr.heap.size wr w6:=hb5.trans (hb6'.mono hb5.size);clear hb6'))
   all_goals
    go_wp2
    go_roundw
    case rel=>exact ⟨k + 1,by omega,by go_num,hb.trans (hb6.mono hsz)⟩
    case measure=>simp [intOf];omega
  ·have k1 : ¬ (k : Int) < (L.length : Int):=by omega
   have hs1:=hb.size
   clear hA d3
   go_wp2_with fail
   go_loopw [5] (fun i wx=>∃ m : Nat,m<=M.length/\i = .int .i64 m/\Below w.heap.size w wx) (fun i _=>M.length - (intOf i).toNat)
   case atStart=>exact ⟨0,Nat.zero_le _,rfl,hb⟩
   case round =>
    obtain ⟨m,hm,rfl,hbm⟩:=hrel
    have hsm:=hbm.size
    have d3:=cell_later hbm c3
    by_cases hlm : m < M.length
    ·obtain ⟨g,rfl,_,hr⟩:=hB (by omega)
     have e1:=cell_later hbm (hr _ _ (vl_at M m hlm))
     obtain ⟨xa,xn,xc,hx,_,_⟩:=(HW.out.am m hlm).1
     have HX : Hid (∀ w',Below w.heap.size w w'->AllX w' (vl M m) (markF ((m : Int) / 3 + 1))):=fun w' hb'=>(HW.out.am m hlm).1.below hb'
     rw [hx] at e1 HX
     have m0 : (0 : Int)<=(m : Int):=by omega
     have m1 : (m : Int) < (M.length : Int):=by omega
     have HMk : Hid (∀ w',Calls Tryz.prog 68 #[.int .i64 (IntKind.i64.wrap (IntKind.i64.wrap ((m : Int) / 3) + 1))] w' fun e w''=>e = .returned (.string (markF ((m : Int) / 3 + 1)))/\Below w'.heap.size w' w''):=by
      intro w'
      rw [wrap_in ((m : Int) / 3) (by omega) (by omega),wrap_in ((m : Int) / 3 + 1) (by omega) (by omega)]
      exact mark_any _ w' (by omega) (by omega)
     have HMd : Hid (∀ w',Below wr.heap.size wr w'->Calls Tryz.prog 67 #[.slice xa xn xc,.string (markF ((m : Int) / 3 + 1))] w' fun e w''=>e = .returned (.bool true)/\Below w'.heap.size w' w'') :=
      fun w' hb'=>marked_any _ _ w' (HX.out w' (hbm.trans (hb'.mono hsm)))
     obtain ⟨mk,hmk⟩ : ∃ mk,markF ((m : Int) / 3 + 1) = mk:=⟨_,rfl⟩
     rw [hmk] at HMk HMd
     clear hr hx hB d2 hmk HX
     go_wp2_with fail
     go_region_with (first
      | (go_at_call 68;refine (HMk.out _).mono ?_;rintro e w5 ⟨rfl,hb5'⟩;have hb5 : Below wr.heap.size wr w5:=(by repeat (first | exact hb5' | exact Below.refl _ _ | refine Below.trans ?_ hb5' | refine Below.drew ?_ | refine below_drewN ?_ _));have x2:=cell_later hb5 d3;have x1:=cell_later hb5 e1;clear hb5')
      | (go_at_call 67;refine (HMd.out _ hb5).mono ?_;rintro e w6 ⟨rfl,hb6'⟩;have hb6 : Below wr.heap.size wr w6:=hb5.trans (hb6'.mono hb5.size);clear hb6'))
     all_goals
      go_wp2
      go_roundw
      case rel=>exact ⟨m + 1,by omega,by go_num,hbm.trans (hb6.mono hsm)⟩
      case measure=>simp [intOf];omega
    ·have m1 : ¬ (m : Int) < (M.length : Int):=by omega
     clear hB d2
     go_wp2
     go_ret
     exact ⟨rfl,hbm⟩
end Go.Proofs.YtilkdeghknjjhaaGreatDoor
