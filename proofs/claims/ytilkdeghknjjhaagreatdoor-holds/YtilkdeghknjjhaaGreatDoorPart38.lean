/- A part of the proof. -/
import Derived.Test.YtilkdeghknjjhaaGreatDoorPart36
set_option maxRecDepth 20000
set_option maxHeartbeats 3200000
set_option linter.unusedVariables false
namespace Go.Proofs.YtilkdeghknjjhaaGreatDoor
open Go.RowKit M Go.Maps
variable {w w4 X : World} {b : Bool}
noncomputable def covB (l : List (Int × Int)) (n c : Int) : Bool:=open Classical in if Clk l/\Dot n c/\c<=cS l n then true else false
theorem covers_f (v : Value) (l : List (Int × Int)) (n c : Int) (w : World) (hrd : Rd w v l) :
  Calls Tryz.prog 89 #[v,.int .i64 n,.int .i64 c] w fun e w'=>e = .returned (.bool (covB l n c))/\Below w.heap.size w w' :=
 (Covers_any v l n c w hrd).mono fun e w' ⟨r,he,hr,hb⟩=>by
  refine ⟨?_,hb⟩
  rw [he]
  unfold covB
  congr 2
  cases r
  ·rw [if_neg fun h=>Bool.false_ne_true (hr.2 h)]
  ·rw [if_pos (hr.1 rfl)]
def Mt.z : Mt:=⟨false,0,0,⟨#[]⟩,[],⟨#[]⟩⟩
noncomputable def mutF (S : St) (k v c : ByteArray) : Mt × Int :=
 if keyOK k = false\/200 < v.size then (Mt.z,1)
 else if decN (bs c) ≠ 0\/covB (decC (bs c)) S.node (S.cnt + 1) = true then (Mt.z,2)
 else if S.ro = true then (Mt.z,4)
 else (⟨false,S.node,S.cnt + 1,k,decC (bs c),v⟩,0)
theorem result_smut (tmps : Array Value) (w : World) (g : Nat) (cs : Array Value) (n : Int) (hs : cs.size = 6) (h4 : tmps.getD 8 undef = .pointer (some ⟨g,0,none⟩)) (h5 : tmps.getD 9 undef = .int .i64 n) (hg : w.heap[g]? = some (.cells cs 111 (0,0))) :
  (results Tryz.f49 tmps).run Tryz.prog w = .ok (.tuple #[.agg cs,.int .i64 n]) w:=by
 have hl:=run_loadVar_row (P:=Tryz.prog) w g 111 111 cs (0,0) _ hg Tryz.underlying111 rfl (by rw [hs];exact infoMt)
 have h4' : tmps[8]?.getD undef = .pointer (some ⟨g,0,none⟩):=by simpa using h4
 have h5' : tmps[9]?.getD undef = .int .i64 n:=by simpa using h5
 simp [results,Tryz.results49,h4',h5',asAddr,hl]
def MutEnd (w : World) (q : Mt × Int) (e : Ending) (w' : World) : Prop :=
 ∃ vc,e = .returned (.tuple #[mtV q.1 vc,.int .i64 q.2])/\Rd w' vc q.1.c/\InZ (fun k=>w.heap.size<=k/\k < w'.heap.size) vc/\Below w.heap.size w w'
theorem mutEnd_z (w X : World) (n : Int) (hb : Below w.heap.size w X) (hr : X.heap[w.heap.size]? = some (.cells mtZ 111 (0,0))) : MutEnd w (Mt.z,n) (.returned (.tuple #[.agg mtZ,.int .i64 n])) (X.setRow w.heap.size mtZ) :=
 ⟨.slice none 0 0,rfl,Rd.nil _,fun k hk=>by simp [Value.ownBlock] at hk,below_setRow hb (Nat.le_refl _) _⟩
theorem stop_any (s : Nat) (a : Nat) (ro : Bool) (n : Int) (u : FrameMode) (w : World) (c8 : w.cell? ⟨s,8,none⟩ = some (.bool ro)) (f8 : w.frozen? ⟨s,8,none⟩ = false) (ha : w.cell? ⟨a,0,none⟩ = some (.int .i64 n)) :
  CallsD Tryz.prog 40 #[.pointer (some ⟨s,0,none⟩),.pointer (some ⟨a,0,none⟩)] u w fun e u' w'=>u' = u/\(e = .returned (.tuple #[])/\w' = if n = 7 then w.setCell ⟨s,8,none⟩ (.bool true) else w):=by
 by_cases h7 : n = 7
 ·have h7b : (n == 7) = true:=by simp [h7]
  rw [if_pos h7]
  go_enter_d Tryz.func40,Tryz.ntmps40
  go_wp2
  go_end0
  exact ⟨rfl,rfl⟩
 ·have h7b : (n == 7) = false:=by simp [h7]
  rw [if_neg h7]
  go_enter_d Tryz.func40,Tryz.ntmps40
  go_wp2
  go_end0
  exact ⟨rfl,rfl⟩
theorem gives_store_row {P : Program} {K : Value->World->Prop} {o : Oper} {a : Act} (ty : TypeId) (x y : Operand) (ho : o.op = .store ty x y) (g : Nat) (cells : Array Value) (hx : a.eval x = .pointer (some ⟨g,0,none⟩)) (hy : a.eval y = .agg cells)
  (t : TypeId) (old : Array Value) (hg : w.heap[g]? = some (.cells old t (0,0))) (hi : (P.info? ty).map (·.size) = some cells.size) (hold : old.size = cells.size) (h1 : cells.all (·.oneCell') = true) (h : K undef (w.setRow g cells)) : gives P K ((execOp a.eval o).run P w):=by
 unfold execOp
 simp only [ho,hx,hy,Instr.storeAt,Instr.sureAddr,Sem.run_bind,Sem.run_pure,Result.andThen_ok,run_storeVar_row w g t ty old cells hg hi hold h1]
 exact h
def MutPh (w w4 : World) (r : Array Value) (b : Bool) (X : World) : Prop:=Tr (One w.heap.size) w4 X/\X.heap[w.heap.size]? = some (.cells (if b = true then r else mtZ) 111 (0,0))
theorem MutPh.row0 {r : Array Value} (h : MutPh w w4 r b X) (hb : b = false) : X.heap[w.heap.size]? = some (.cells mtZ 111 (0,0)):=by
 have:=h.2
 rw [hb] at this
 exact this
theorem MutPh.below {X' : World} {r : Array Value} (h : MutPh w w4 r b X) (hb : Below X.heap.size X X') : MutPh w w4 r b X':=⟨h.1.trans (below_tr hb _),heap_later hb h.2⟩
theorem MutPh.store {r : Array Value} (h : MutPh w w4 r b X) : MutPh w w4 r true (X.setRow w.heap.size r) :=
 ⟨⟨h.1.os,h.1.tape,h.1.output,by have:=h.1.size;simp [World.setRow];exact this,fun i hi hz=>(setRow_other X w.heap.size i r (fun e=>hz e)).trans (h.1.block i hi hz)⟩,setRow_heap _ _ _ _ _ _ h.2⟩
theorem smut_any (Y : Nat->Prop) (s : Nat) (dv mv : Value) (jb : Nat) (n : Nat) (S : St) (k v c : ByteArray) (w : World) (h : StIn Y w s dv (.pointer (some ⟨jb,0,none⟩)) mv n S) (hk : k.size<=1000000000) (hv : v.size<=1000000000) (hc : c.size<=1000000000) (hc0 : 0<=S.cnt) (hc2 : S.cnt<=4611686018427387904) :
  Calls Tryz.prog 49 #[.pointer (some ⟨s,0,none⟩),.string k,.string v,.string c] w fun e w'=>MutEnd w (mutF S k v c) e w':=by
 have HMF : Hid (mutF S k v c = if keyOK k = false\/200 < v.size then (Mt.z,1) else if decN (bs c) ≠ 0\/covB (decC (bs c)) S.node (S.cnt + 1) = true then (Mt.z,2) else if S.ro = true then (Mt.z,4) else (⟨false,S.node,S.cnt + 1,k,decC (bs c),v⟩,0)):=rfl
 obtain ⟨R,hR⟩ : ∃ R,mutF S k v c = R:=⟨_,rfl⟩
 rw [hR] at HMF ⊢
 obtain ⟨W,hW,HB,HM⟩ : ∃ W,(w.alloc (.cells mtZ 111)) = W/\Hid (Below w.heap.size w W)/\Hid (W.heap[w.heap.size]? = some (.cells mtZ 111 (0,0))) :=
  ⟨_,rfl,(Below.refl _ _).alloc (Nat.le_refl _) _,heap_alloc_new w _⟩
 have HWs : Hid (w.heap.size < W.heap.size):=by show _ < _;rw [<- hW];simp
 unfold mtZ at hW
 have HS : Hid (StIn Y W s dv (.pointer (some ⟨jb,0,none⟩)) mv n S):=h.below HB.out
 have HX : Hid (∀ X,Below W.heap.size W X->X.heap[w.heap.size]? = some (.cells mtZ 111 (0,0))/\Below w.heap.size w X/\X.cell? ⟨s,1,none⟩ = some (.int .i64 S.node)/\X.cell? ⟨s,6,none⟩ = some (.int .i64 S.cnt)/\X.cell? ⟨s,8,none⟩ = some (.bool S.ro)):=fun X hX =>
  ⟨heap_later hX HM.out,belowN HB.out hX,((HS.out.below hX).cell 1).trans rfl,((HS.out.below hX).cell 6).trans rfl,((HS.out.below hX).cell 8).trans rfl⟩
 have HCl : Hid (Calls Tryz.prog 39 #[.pointer (some ⟨s,0,none⟩)] W fun e w'=>e = .returned (.bool false)/\w' = W):=closed_no Y s jb dv mv n S W HS.out
 have HK : Hid (∀ X,Calls Tryz.prog 53 #[.string k] X fun e w'=>e = .returned (.bool (keyOK k))/\w' = X):=fun X=>isKey_any k X
 have HD : Hid (∀ X,Calls Tryz.prog 88 #[.string c] X fun e w'=>∃ a l cap,e = .returned (.tuple #[.slice a l cap,.int .i64 (decN (bs c))])/\Rd w' (.slice a l cap) (decC (bs c))/\InZ (fun k=>X.heap.size<=k/\k < w'.heap.size) (.slice a l cap)/\Below X.heap.size X w'):=fun X=>by
  have:=Decode_f (bs c) X (by rw [bs_len];exact hc)
  rw [ba_bs] at this
  refine this.mono ?_
  rintro e w' ⟨vv,rfl,ho,hb⟩
  obtain ⟨a,cap,rfl⟩:=own_shape ho
  exact ⟨_,_,_,rfl,Rd.own ho rfl,fun i hi=>ho.lt i hi,hb⟩
 have HCo : Hid (∀ X a l cap,Rd X (.slice a l cap) (decC (bs c))->Calls Tryz.prog 89 #[.slice a l cap,.int .i64 S.node,.int .i64 (S.cnt + 1)] X fun e w'=>e = .returned (.bool (covB (decC (bs c)) S.node (S.cnt + 1)))/\Below X.heap.size X w'):=fun X a l cap hr=>covers_f _ _ _ _ X hr
 have HSC : Hid (∀ (t : ByteArray) X,t.size<=1000000000->Calls Tryz.prog 90 #[.string t] X fun e w'=>e = .returned (.string t)/\Below X.heap.size X w'):=fun t X ht=>Clone_any t X ht
 have HSs : Hid (∀ X,Below W.heap.size W X->X.heap[s]? = some (.cells #[dv,.int .i64 S.node,.int .i64 S.every,.int .i64 S.roll,.pointer (some ⟨jb,0,none⟩),mv,.int .i64 S.cnt,.int .i64 S.held,.bool S.ro] 86 (0,0))):=fun X hX=>(HS.out.below hX).hs
 have hcw : IntKind.i64.wrap (S.cnt + 1) = S.cnt + 1:=wrap_in _ (by omega) (by omega)
 obtain ⟨N,hN⟩ : ∃ N,decN (bs c) = N:=⟨_,rfl⟩
 obtain ⟨C,hC⟩ : ∃ C,decC (bs c) = C:=⟨_,rfl⟩
 obtain ⟨cv,hcv⟩ : ∃ cv,covB C S.node (S.cnt + 1) = cv:=⟨_,rfl⟩
 obtain ⟨kb,hkb⟩ : ∃ kb,keyOK k = kb:=⟨_,rfl⟩
 rw [hN,hC] at HD
 rw [hC,hcv] at HCo
 rw [hkb] at HK
 rw [hN,hC,hcv,hkb] at HMF
 clear hN hC hcv hkb h hR HS HB
 cases kb
 ·have HF : Hid (R = (Mt.z,1)):=by show _ = _;rw [HMF.out,if_pos (.inl rfl)]
  clear HMF HD HCo HSC
  go_enter Tryz.func49,Tryz.ntmps49
  go_upto_region 1 with (fail)
  clear hW
  go_wp2_with fail
  refine HCl.out.mono ?_
  rintro e w1 ⟨rfl,rfl⟩
  obtain ⟨hX1,hB1,c1,c6,c8⟩:=HX.out w1 (Below.refl _ _)
  go_wp2_with fail
  refine (HK.out w1).mono ?_
  rintro e w2 ⟨rfl,rfl⟩
  go_wp2_with (first
   | (refine wpList_store_row rfl 111 _ _ rfl w.heap.size mtZ rfl rfl 111 mtZ hX1 infoMt rfl (one_mt _ _ _ _ _ _ _ _) ?_))
  exact bodyPost_ret (result_smut _ _ w.heap.size mtZ 1 rfl rfl rfl (setRow_heap _ _ _ _ _ _ hX1)) rfl (by rw [HF.out];exact mutEnd_z w _ 1 hB1 hX1)
 ·by_cases hv2 : 200 < v.size
  ·have HF : Hid (R = (Mt.z,1)):=by show _ = _;rw [HMF.out,if_pos (.inr hv2)]
   have hv3 : (200 : Int) < (v.size : Int):=by omega
   clear HMF HD HCo HSC
   go_enter Tryz.func49,Tryz.ntmps49
   go_upto_region 1 with (fail)
   clear hW
   go_wp2_with fail
   refine HCl.out.mono ?_
   rintro e w1 ⟨rfl,rfl⟩
   obtain ⟨hX1,hB1,c1,c6,c8⟩:=HX.out w1 (Below.refl _ _)
   go_wp2_with fail
   refine (HK.out w1).mono ?_
   rintro e w2 ⟨rfl,rfl⟩
   go_wp2_with (first
    | (refine wpList_store_row rfl 111 _ _ rfl w.heap.size mtZ rfl rfl 111 mtZ hX1 infoMt rfl (one_mt _ _ _ _ _ _ _ _) ?_))
   exact bodyPost_ret (result_smut _ _ w.heap.size mtZ 1 rfl rfl rfl (setRow_heap _ _ _ _ _ _ hX1)) rfl (by rw [HF.out];exact mutEnd_z w _ 1 hB1 hX1)
  ·have hv3 : ¬ (200 : Int) < (v.size : Int):=by omega
   go_enter Tryz.func49,Tryz.ntmps49
   go_upto_region 1 with (fail)
   clear hW
   go_wp2_with fail
   refine HCl.out.mono ?_
   rintro e w1 ⟨rfl,rfl⟩
   obtain ⟨hX1,hB1,c1,c6,c8⟩:=HX.out w1 (Below.refl _ _)
   go_wp2_with fail
   refine (HK.out w1).mono ?_
   rintro e w2 ⟨rfl,rfl⟩
   go_upto_region 6 with (fail)
   go_wp2_with fail
   refine (HD.out w2).mono ?_
   rintro e w3 ⟨a,l,cap,rfl,hrd,hz,hb3⟩
   obtain ⟨hX3,hB3,e1,e6,e8⟩:=HX.out w3 hb3
   clear HCl HK HD c1 c6 c8
   by_cases hN : N = 0
   ·have hNb : (N != 0) = false:=by simp [hN]
    subst hN
    cases cv
    ·go_wp2_with fail
     refine (HCo.out w3 _ _ _ hrd).mono ?_
     rintro e w4 ⟨rfl,hb4⟩
     have hb04:=belowN hb3 hb4
     obtain ⟨hX4,hB4,q1,q6,q8⟩:=HX.out w4 hb04
     have HRd : Hid (Rd w4 (.slice a l cap) C):=hrd.below hb4
     cases hro : S.ro
     ·have HF : Hid (R = (⟨false,S.node,S.cnt + 1,k,C,v⟩,0)):=by show _ = _;rw [HMF.out,if_neg (fun hh=>hh.elim (fun h=>by cases h) hv2),if_neg (fun hh=>hh.elim (fun h=>h rfl) (fun h=>by cases h)),if_neg (by rw [hro];simp)]
      rw [hro] at q8
      clear HMF HCo hrd hX3 hB3 e1 e6 e8 hX1 hB1
      go_upto_region 11 with (fail)
      have hS:=hb04
      have hne : w.heap.size ≠ s:=fun e=>by rw [e,HSs.out w4 hb04] at hX4;injection hX4 with hX4;injection hX4 with _ h2 _;exact absurd h2 (by decide)
      obtain ⟨r0,hr0⟩ : ∃ r0,(#[.bool false,.int .i64 S.node,.int .i64 (S.cnt + 1),.string k,.slice a l cap,.string v] : Array Value) = r0:=⟨_,rfl⟩
      have HZ : Hid (InZ (fun i=>w.heap.size < i/\i < w4.heap.size) (.slice a l cap)):=fun i hi=>by
       have:=hz i hi
       have:=HWs.out
       have:=hb4.size
       omega
      refine wp_region_flow 65 [] (fun _=>#[.pointer (some ⟨s,0,none⟩),.string k,.string v,.string c,undef,undef,undef,undef,.pointer (some ⟨w.heap.size,0,none⟩),.int .i64 0,.int .i64 (S.cnt + 1),.slice a l cap,.int .i64 0,.pointer (some ⟨s,0,none⟩),.bool false,undef,.string k,.bool true,.bool false,.bool false,.string v,.int .i64 v.size,.bool (decide ((200 : Int) < v.size)),.bool (decide ((200 : Int) < v.size)),undef,.pointer (some ⟨s,0,none⟩),.pointer (some ⟨s,0,none⟩),.pointer (some ⟨s,6,none⟩),.int .i64 S.cnt,.int .i64 (S.cnt + 1),.tuple #[.slice a l cap,.int .i64 0],.string c,.tuple #[.slice a l cap,.int .i64 0],.slice a l cap,.int .i64 0,.int .i64 0,.bool false,.bool false,.slice a l cap,.pointer (some ⟨s,0,none⟩),.pointer (some ⟨s,0,none⟩),.pointer (some ⟨s,1,none⟩),.pointer (some ⟨s,1,none⟩),.int .i64 S.node,.int .i64 (S.cnt + 1),.bool false,.bool false,undef,.pointer (some ⟨s,0,none⟩),.pointer (some ⟨s,0,none⟩),.pointer (some ⟨s,8,none⟩),.bool false,undef,.pointer (some ⟨s,0,none⟩),.pointer (some ⟨s,0,none⟩),.pointer (some ⟨s,1,none⟩),.pointer (some ⟨s,1,none⟩),.int .i64 S.node,.int .i64 (S.cnt + 1),.string k,.string k,.slice a l cap,.string v,.string v,.agg #[.bool false,.int .i64 S.node,.int .i64 (S.cnt + 1),.string k,.slice a l cap,.string v]])
       (fun L X=>MutPh w w4 r0 (L 12) X) (fun _ _=>True) (fun _ _ _=>True)
       (by kernel_rfl) (by kernel_rfl) (fun u=>rfl) (fun u k hk=>by simp at hk) (fun u v k hk=>rfl) (fun k hk=>by simp at hk) rfl ?_ (fun _ _ _ _ _ _=>trivial) ⟨(Tr.refl _ w4).drew,hX4⟩ (eachOp_at ?_) ?_
      ·intro u;exact flow_keep [0,1,2,3,4,5,6,7,8,10,11,12,13,14,15,16,17,18,19,20,21,22,23,24,25,26,27,28,29,30,31,32,33,34,35,36,37,38,39,40,41,42,43,44,45,46,47,48,49,50,51,52] (by kernel_rfl) rfl rfl (by intro k hk;simp only [List.mem_cons,List.not_mem_nil,or_false] at hk;rcases hk with rfl | rfl | rfl | rfl | rfl | rfl | rfl | rfl | rfl | rfl | rfl | rfl | rfl | rfl | rfl | rfl | rfl | rfl | rfl | rfl | rfl | rfl | rfl | rfl | rfl | rfl | rfl | rfl | rfl | rfl | rfl | rfl | rfl | rfl | rfl | rfl | rfl | rfl | rfl | rfl | rfl | rfl | rfl | rfl | rfl | rfl | rfl | rfl | rfl | rfl | rfl | rfl <;> rfl)
      ·simp only [eachOp]
       refine ⟨?_,?_,?_,?_,?_,?_,?_,?_,?_,?_,?_,?_,?_,?_,trivial⟩
       all_goals
        intro L u X hL hup hcl hX hr
        clear hr
        have f1 : X.cell? ⟨s,1,none⟩ = some (.int .i64 S.node):=cell_tr hX.1 q1 (fun (e : s = w.heap.size)=>hne e.symm)
       ·refine wantedI rfl ?_;go_simp;exact ⟨by rw [andI_ne L (by decide)];exact hX,rfl⟩
       ·refine wantedI rfl ?_;go_simp;exact ⟨by rw [andI_ne L (by decide)];exact hX,rfl⟩
       ·refine wantedI rfl ?_;go_simp;exact ⟨by rw [andI_ne L (by decide)];exact hX,rfl⟩
       ·refine wantedI rfl ?_;go_simp;exact ⟨by rw [andI_ne L (by decide)];exact hX,rfl⟩
       ·refine wantedI rfl ?_;go_simp;exact ⟨by rw [andI_ne L (by decide)];exact hX,rfl⟩
       ·refine wantedI rfl ?_;go_simp;exact ⟨by rw [andI_ne L (by decide)];exact hX,rfl⟩
       ·refine wantedI rfl ?_;go_simp;exact ⟨by rw [andI_ne L (by decide)];exact hX,rfl⟩
       ·refine wantedI rfl ?_;go_simp;exact (HSC.out k X hk).mono fun e w' ⟨he,hb⟩=>⟨_,he,by show MutPh w w4 r0 (andI L 7 12) w';rw [andI_ne L (by decide)];exact hX.below hb,rfl⟩
       ·refine wantedI rfl ?_;go_simp;exact ⟨by rw [andI_ne L (by decide)];exact hX,rfl⟩
       ·refine wantedI rfl ?_;go_simp;exact ⟨by rw [andI_ne L (by decide)];exact hX,rfl⟩
       ·refine wantedI rfl ?_;go_simp;exact (HSC.out v X hv).mono fun e w' ⟨he,hb⟩=>⟨_,he,by show MutPh w w4 r0 (andI L 10 12) w';rw [andI_ne L (by decide)];exact hX.below hb,rfl⟩
       ·refine wantedI rfl ?_;go_simp;exact ⟨by rw [andI_ne L (by decide)];exact hX,rfl⟩
       ·refine wantedI rfl ?_;refine gives_store_row 111 _ _ rfl w.heap.size #[.bool false,.int .i64 S.node,.int .i64 (S.cnt + 1),.string k,.slice a l cap,.string v] rfl rfl 111 mtZ (hX.row0 hL) infoMt rfl (one_mt _ _ _ _ _ _ _ _) ?_;exact ⟨by show MutPh w w4 r0 (andI L 12 12) _;rw [andI_same,hr0];exact hX.store,trivial,fun d hd=>by cases hd⟩
       ·refine wantedI rfl ?_;go_simp;exact ⟨by rw [andI_ne L (by decide)];exact hX,rfl⟩
      ·intro L u X hL hX hr
       have h1 : L 12 = true:=hL 12 (by decide)
       rw [h1] at hX
       go_wp2
       have hsz:=HWs.out
       refine bodyPost_ret (result_smut _ _ w.heap.size r0 0 (by rw [<- hr0];rfl) rfl rfl hX.2) rfl ?_
       rw [HF.out]
       refine ⟨.slice a l cap,by rw [<- hr0];rfl,HRd.out.tr hX.1 (fun i hi (e : i = w.heap.size)=>by have:=HZ.out i hi;omega),fun i hi=>?_,hB4.trans (hX.1.below hB4.size (fun i hi (e : i = w.heap.size)=>by omega))⟩
       have h3:=HZ.out i hi
       have h4:=hX.1.size
       omega
     ·have HF : Hid (R = (Mt.z,4)):=by show _ = _;rw [HMF.out,if_neg (fun hh=>hh.elim (fun h=>by cases h) hv2),if_neg (fun hh=>hh.elim (fun h=>h rfl) (fun h=>by cases h)),if_pos hro]
      rw [hro] at q8
      clear HMF HCo
      go_wp2_with (first
       | (refine wpList_store_row rfl 111 _ _ rfl w.heap.size mtZ rfl rfl 111 mtZ hX4 infoMt rfl (one_mt _ _ _ _ _ _ _ _) ?_))
      exact bodyPost_ret (result_smut _ _ w.heap.size mtZ 4 rfl rfl rfl (setRow_heap _ _ _ _ _ _ hX4)) rfl (by rw [HF.out];exact mutEnd_z w _ 4 hB4 hX4)
    ·have HF : Hid (R = (Mt.z,2)):=by show _ = _;rw [HMF.out,if_neg (fun hh=>hh.elim (fun h=>by cases h) hv2),if_pos (.inr rfl)]
     clear HMF
     go_wp2_with fail
     refine (HCo.out w3 _ _ _ hrd).mono ?_
     rintro e w4 ⟨rfl,hb4⟩
     obtain ⟨hX4,hB4,q1,q6,q8⟩:=HX.out w4 (belowN hb3 hb4)
     go_wp2_with (first
      | (refine wpList_store_row rfl 111 _ _ rfl w.heap.size mtZ rfl rfl 111 mtZ hX4 infoMt rfl (one_mt _ _ _ _ _ _ _ _) ?_))
     exact bodyPost_ret (result_smut _ _ w.heap.size mtZ 2 rfl rfl rfl (setRow_heap _ _ _ _ _ _ hX4)) rfl (by rw [HF.out];exact mutEnd_z w _ 2 hB4 hX4)
   ·have HF : Hid (R = (Mt.z,2)):=by show _ = _;rw [HMF.out,if_neg (fun hh=>hh.elim (fun h=>by cases h) hv2),if_pos (.inl hN)]
    have hNb : (N != 0) = true:=by simp [hN]
    clear HMF HCo
    go_wp2_with (first
     | (refine wpList_store_row rfl 111 _ _ rfl w.heap.size mtZ rfl rfl 111 mtZ hX3 infoMt rfl (one_mt _ _ _ _ _ _ _ _) ?_))
    exact bodyPost_ret (result_smut _ _ w.heap.size mtZ 2 rfl rfl rfl (setRow_heap _ _ _ _ _ _ hX3)) rfl (by rw [HF.out];exact mutEnd_z w _ 2 hB3 hX3)
end Go.Proofs.YtilkdeghknjjhaaGreatDoor
namespace Go.Proofs.YtilkdeghknjjhaaGreatDoor
open Go.RowKit M Go.Maps
variable {Z Y : Nat->Prop} {w w1 : World} {s j d n : Nat} {D : Dk} {J : Jn} {S : St}
theorem StoX.cell {W w2 : World} {mv : Value} {m : Nat} {D' : Dk} {J' : Jn} {S' : St} (h0 : Sto Z Y w s j d mv n D J S) (h : StoX Z Y W w1 s j d m D' J' S') (hb : Below w.heap.size w W) {g : Nat} (hg : w.heap.size<=g) (hgW : g < W.heap.size) (t : Tr (One g) w1 w2) :
  StoX Z Y w w2 s j d m D' J' S':=by
 obtain ⟨⟨Z',Y',mv',h1,h2,h3⟩,t2⟩:=h
 have hjl:=h0.jlt
 have h5:=h0.j5
 have hs:=hb.size
 refine ⟨⟨Z',Y',mv',h1.tr t (fun i (hi : i = g)=>⟨fun hz=>?_,fun hy=>?_,by omega,by omega⟩),fun k hk=>(h2 k hk).imp (fun h=>h) (fun h=>by omega),fun k hk=>(h3 k hk).imp (fun h=>h) (fun h=>by omega)⟩,((below_tr hb (Zs Z Y j)).trans t2).trans' t fun i hi (e : i = g)=>by omega⟩
 ·rcases h2 i hz with h | h
  ·have:=h0.lz i h;omega
  ·omega
 ·rcases h3 i hy with h | h
  ·have:=h0.st.lt i h;omega
  ·omega
theorem StoX.ro (hs : s < w.heap.size->Y s) (h : StoX Z Y w w1 s j d n D J S) : StoX Z Y w (w1.setCell ⟨s,8,none⟩ (.bool true)) s j d n D J { S with ro:=true }:=by
 obtain ⟨⟨Z',Y',mv',h1,h2,h3⟩,t2⟩:=h
 obtain ⟨h4,t4⟩:=h1.set 8 (.bool true) (h1.st.setS (S':={ S with ro:=true }) 8 _ rfl rfl)
 refine ⟨⟨Z',Y',mv',h4,h2,h3⟩,t2.trans' ((Tr.refl (One s) w1).set1 8 _) fun i hi (e : i = s)=>?_⟩
 exact .inr (.inl (e ▸ hs (e ▸ hi)))
theorem StoX.c8 (h : StoX Z Y w w1 s j d n D J S) : w1.cell? ⟨s,8,none⟩ = some (.bool S.ro)/\w1.frozen? ⟨s,8,none⟩ = false:=by
 obtain ⟨⟨Z',Y',mv',h1,h2,h3⟩,t2⟩:=h
 exact ⟨(h1.st.cell 8).trans rfl,h1.st.frozen 8⟩
def stopF (q : Int × Dk × Jn × St) : Int × Dk × Jn × St:=if q.1 = 7 then (q.1,q.2.1,q.2.2.1,{ q.2.2.2 with ro:=true }) else q
theorem stop_end (q : Int × Dk × Jn × St) (h : StoX Z Y w w1 s j d n q.2.1 q.2.2.1 q.2.2.2) (hs : s < w.heap.size->Y s) (a : Nat) (u : FrameMode) (ha : w1.cell? ⟨a,0,none⟩ = some (.int .i64 q.1)) (hne : a ≠ s) :
  CallsD Tryz.prog 40 #[.pointer (some ⟨s,0,none⟩),.pointer (some ⟨a,0,none⟩)] u w1 fun e u' w'=>u' = u/\(e = .returned (.tuple #[])/\StoX Z Y w w' s j d n (stopF q).2.1 (stopF q).2.2.1 (stopF q).2.2.2/\w'.cell? ⟨a,0,none⟩ = some (.int .i64 (stopF q).1)):=by
 refine (stop_any s a q.2.2.2.ro q.1 u w1 h.c8.1 h.c8.2 ha).mono ?_
 rintro e u' w' ⟨hu,he,rfl⟩
 refine ⟨hu,he,?_,?_⟩
 ·unfold stopF
  split
  ·exact h.ro hs
  ·exact h
 ·have e1 : (stopF q).1 = q.1:=by unfold stopF;split <;> rfl
  rw [e1]
  split
  ·rw [World.cell?_setCell_other _ ⟨s,8,none⟩ ⟨a,0,none⟩ _ (by simp)];exact ha
  ·exact ha
theorem result_put (tmps : Array Value) (w : World) (g : Nat) (n : Int) (h4 : tmps.getD 8 undef = .pointer (some ⟨g,0,none⟩)) (hg : w.cell? ⟨g,0,none⟩ = some (.int .i64 n)) :
  (results Tryz.f25 tmps).run Tryz.prog w = .ok (.int .i64 n) w:=by
 have h4' : tmps[8]?.getD undef = .pointer (some ⟨g,0,none⟩):=by simpa using h4
 simp [results,Tryz.results25,h4',asAddr,go_sem,hg]
noncomputable def putF (D : Dk) (J : Jn) (S : St) (k v c : ByteArray) : Int × Dk × Jn × St:=stopF (if (mutF S k v c).2 = 0 then doF D J S (mutF S k v c).1 else ((mutF S k v c).2,D,J,S))
theorem mutF_ok {k v c : ByteArray} (h : (mutF S k v c).2 = 0) : (mutF S k v c).1.k.size<=40/\(mutF S k v c).1.v.size<=200/\(mutF S k v c).1.count = S.cnt + 1/\(mutF S k v c).1.k = k:=by
 unfold mutF at h ⊢
 by_cases h1 : keyOK k = false\/200 < v.size
 ·rw [if_pos h1] at h;cases h
 ·rw [if_neg h1] at h ⊢
  by_cases h2 : decN (bs c) ≠ 0\/covB (decC (bs c)) S.node (S.cnt + 1) = true
  ·rw [if_pos h2] at h;cases h
  ·rw [if_neg h2] at h ⊢
   by_cases h3 : S.ro = true
   ·rw [if_pos h3] at h;cases h
   ·rw [if_neg h3]
    refine ⟨?_,by have:=fun hh=>h1 (.inr hh);simp only;omega,rfl,rfl⟩
    have : keyOK k = true:=by cases hk : keyOK k <;> simp_all
    unfold keyOK at this
    simp at this
    simp only
    omega
structure WrPre (D : Dk) (J : Jn) (S : St) : Prop where
 wf : D.WF
 wf2 : ∀ m : Mt,m.k.size<=255->m.v.size<=255->(jappend D J (encM m)).2.1.WF
 bu : D.Bud 5
 jn : J.num < 900000000
 js : J.size<=1000000000
 jr : J.roll<=1000000000
 c0 : 0<=S.held
 c1 : S.held<=S.cnt
theorem sput_gen (Z Y : Nat->Prop) (s j d : Nat) (mv : Value) (n : Nat) (D : Dk) (J : Jn) (S : St) (k v c : ByteArray) (w : World) (h : Sto Z Y w s j d mv n D J S) (hX : (mutF S k v c).2 = 0->WrPre D J S)
  (hk : k.size<=1000000000) (hv : v.size<=1000000000) (hc : c.size<=1000000000) (hn : n < 900000000000) (hcn : 0<=S.cnt) (hc2 : S.cnt<=1000000000000000) (hE : (S.M k).L.length<=6) :
  Calls Tryz.prog 25 #[.pointer (some ⟨s,0,none⟩),.string k,.string v,.string c] w fun e w'=>e = .returned (.int .i64 (putF D J S k v c).1)/\StoX Z Y w w' s j d (n + 2) (putF D J S k v c).2.1 (putF D J S k v c).2.2.1 (putF D J S k v c).2.2.2:=by
 obtain ⟨W,hW,HB,HA⟩ : ∃ W,(w.alloc (.cells #[.int .i64 0] 31)) = W/\Hid (Below w.heap.size w W)/\Hid (W.heap[w.heap.size]? = some (.cells #[.int .i64 0] 31 (0,0))) :=
  ⟨_,rfl,(Below.refl _ _).alloc (Nat.le_refl _) _,heap_alloc_new w _⟩
 have HW1 : Hid (w.heap.size < W.heap.size):=by show _ < _;rw [<- hW];simp
 have H0 : Hid (Sto Z Y w s j d mv n D J S):=h
 have HM:=smut_any Y s _ mv j n S k v c W (h.below HB.out).st hk hv hc (by omega) (by omega)
 obtain ⟨q,hq⟩ : ∃ q,mutF S k v c = q:=⟨_,rfl⟩
 have HP : Hid (putF D J S k v c = stopF (if q.2 = 0 then doF D J S q.1 else (q.2,D,J,S))):=by show _ = _;unfold putF;rw [hq]
 have HX : Hid (q.2 = 0->WrPre D J S):=by rw [<- hq];exact hX
 clear hX
 have HOk : Hid (q.2 = 0->q.1.k.size<=40/\q.1.v.size<=200/\q.1.count = S.cnt + 1/\q.1.k = k):=by rw [<- hq];exact mutF_ok
 obtain ⟨R,hR⟩ : ∃ R,putF D J S k v c = R:=⟨_,rfl⟩
 rw [hR] at HP ⊢
 rw [hq] at HM
 obtain ⟨⟨del,node,count,kk,C,vv⟩,ne⟩:=q
 replace HM : Calls Tryz.prog 49 #[.pointer (some ⟨s,0,none⟩),.string k,.string v,.string c] W fun e w'=>∃ a l cap,e = .returned (.tuple #[.agg #[.bool del,.int .i64 node,.int .i64 count,.string kk,.slice a l cap,.string vv],.int .i64 ne])/\Rd w' (.slice a l cap) C/\InZ (fun k=>W.heap.size<=k/\k < w'.heap.size) (.slice a l cap)/\Below W.heap.size W w':=by
  refine HM.mono ?_
  rintro e w1 ⟨vc,rfl,hrd,hz,hb1⟩
  obtain ⟨av,cv,rfl⟩:=hrd.shape
  exact ⟨_,_,_,rfl,hrd,hz,hb1⟩
 clear hq hR h
 go_enter_defers Tryz.func25,Tryz.ntmps25
 go_upto_region 1 with (fail)
 clear hW
 go_wp2_with fail
 refine HM.mono ?_
 rintro e w1 ⟨av,lv,cv,rfl,hrd,hz,hb1⟩
 obtain ⟨W2,hW2,HB2,HM2,HA2⟩ : ∃ W2,w1.alloc (.cells #[.bool del,.int .i64 node,.int .i64 count,.string kk,.slice av lv cv,.string vv] 111) = W2/\Hid (Below W.heap.size W W2)/\Hid (W2.heap[w1.heap.size]? = some (.cells #[.bool del,.int .i64 node,.int .i64 count,.string kk,.slice av lv cv,.string vv] 111 (0,0))) /\
   Hid (W2.heap[w.heap.size]? = some (.cells #[.int .i64 0] 31 (0,0))):=⟨_,rfl,belowA hb1,heap_alloc_new w1 _,heap_later (belowA hb1) HA.out⟩
 have f0 : W2.cell? ⟨w.heap.size,0,none⟩ = some (.int .i64 0):=by rw [cell_of_row _ _ _ _ _ _ HA2.out];rfl
 have z0 : W2.frozen? ⟨w.heap.size,0,none⟩ = false:=frozen_of_row _ _ _ _ _ HA2.out
 have HSz : Hid (w.heap.size < W.heap.size/\W.heap.size<=w1.heap.size/\w1.heap.size < W2.heap.size):=⟨HW1.out,hb1.size,by rw [<- hW2];simp⟩
 obtain ⟨W3,hW3,HB3,HM3,HA3⟩ : ∃ W3,W2.setCell ⟨w.heap.size,0,none⟩ (.int .i64 ne) = W3/\Hid (Below w.heap.size w W3/\W3.heap.size = W2.heap.size)/\Hid (W3.heap[w1.heap.size]? = some (.cells #[.bool del,.int .i64 node,.int .i64 count,.string kk,.slice av lv cv,.string vv] 111 (0,0))) /\
   Hid (W3.heap[w.heap.size]? = some (.cells #[.int .i64 ne] 31 (0,0))):=by
  have h1:=HSz.out
  exact ⟨_,rfl,⟨(belowN HB.out HB2.out).setCell (Nat.le_refl _) _,by simp [World.setCell]⟩,by rw [Below.heap_setCell _ _ _ _ (fun e : w1.heap.size = w.heap.size=>by omega)];exact HM2.out,by rw [heap_setCell_self HA2.out];rfl⟩
 have g0 : W3.cell? ⟨w.heap.size,0,none⟩ = some (.int .i64 ne):=by rw [cell_of_row _ _ _ _ _ _ HA3.out];rfl
 have g1 : W3.frozen? ⟨w.heap.size,0,none⟩ = false:=frozen_of_row _ _ _ _ _ HA3.out
 have HRd : Hid (Rd W3 (.slice av lv cv) C/\InZ (fun k=>¬ Y k/\k < W3.heap.size) (.slice av lv cv)):=by
  have h1:=HSz.out
  have h2:=HB3.out.2
  refine ⟨?_,fun i hi=>?_⟩
  ·have hb : Below w1.heap.size w1 W2:=by rw [<- hW2];exact belowA (Below.refl _ _)
   rw [<- hW3]
   exact (hrd.below hb).tr ((Tr.refl (One w.heap.size) W2).set1 0 _) (fun i hi (e : i = w.heap.size)=>by have:=hz i hi;omega)
  ·have:=hz i hi
   exact ⟨fun hy=>by have:=H0.out.st.lt i hy;omega,by omega⟩
 clear hrd hz hb1 HA2 HM2
 by_cases hne : ne = 0
 ·subst hne
  obtain ⟨k1,k2,k3,k4⟩:=HOk.out rfl
  obtain ⟨hwf,hwf2,hbu,hjn,hjs,hjr,hc0,hc1⟩:=HX.out rfl
  have HF : Hid (R = stopF (doF D J S ⟨del,node,count,kk,C,vv⟩)):=by show _ = _;rw [HP.out,if_pos rfl]
  have hcell : ∀ o,W3.cell? ⟨w1.heap.size,o,none⟩ = #[Value.bool del,.int .i64 node,.int .i64 count,.string kk,.slice av lv cv,.string vv][o]?:=fun o=>by rw [cell_of_row _ _ _ _ _ _ HM3.out]
  have x0:=(hcell 0).trans (b:=some (Value.bool del)) rfl
  have x1:=(hcell 1).trans (b:=some (Value.int .i64 node)) rfl
  have x2:=(hcell 2).trans (b:=some (Value.int .i64 count)) rfl
  have x3:=(hcell 3).trans (b:=some (Value.string kk)) rfl
  have x4:=(hcell 4).trans (b:=some (Value.slice av lv cv)) rfl
  have x5:=(hcell 5).trans (b:=some (Value.string vv)) rfl
  have HS3 : Hid (Sto Z Y W3 s j d mv n D J S):=H0.out.below HB3.out.1
  have HDo : Hid (Calls Tryz.prog 50 #[.pointer (some ⟨s,0,none⟩),.agg #[.bool del,.int .i64 node,.int .i64 count,.string kk,.slice av lv cv,.string vv]] W3 fun e w'=>e = .returned (.int .i64 (doF D J S ⟨del,node,count,kk,C,vv⟩).1)/\StoX Z Y W3 w' s j d (n + 2) (doF D J S ⟨del,node,count,kk,C,vv⟩).2.1 (doF D J S ⟨del,node,count,kk,C,vv⟩).2.2.1 (doF D J S ⟨del,node,count,kk,C,vv⟩).2.2.2) :=
   sdo_any Z Y s j d mv n D J S ⟨del,node,count,kk,C,vv⟩ (.slice av lv cv) W3 HS3.out hwf (hwf2 _ (by simp only at k1 ⊢;omega) (by simp only at k2 ⊢;omega)) hbu hjn hjs hjr HRd.out.1 HRd.out.2 (by simp only at k1 ⊢;omega) (by simp only at k2 ⊢;omega) hn hc0 hc1 k3 hc2 (by simp only at k4 ⊢;rw [k4];exact hE)
  obtain ⟨Q,hQ⟩ : ∃ Q,doF D J S ⟨del,node,count,kk,C,vv⟩ = Q:=⟨_,rfl⟩
  rw [hQ] at HF HDo
  clear hcell k1 k2 k3 k4 hQ HP HOk
  go_upto_region 5 with (fail)
  clear hW2 hW3 f0 z0
  go_wp2_with fail
  refine HDo.out.mono ?_
  rintro e w5 ⟨rfl,hX5⟩
  have HX5 : Hid (StoX Z Y W3 w5 s j d (n + 2) Q.2.1 Q.2.2.1 Q.2.2.2):=hX5
  have hr5 : w5.heap[w.heap.size]? = some (.cells #[.int .i64 0] 31 (0,0)):=hX5.2.heap HA3.out (fun hz=>by
   rcases hz with hz | hz | hz
   ·have:=H0.out.lz _ hz;omega
   ·have:=H0.out.st.lt _ hz;omega
   ·have:=H0.out.jlt;omega)
  have f5 : w5.cell? ⟨w.heap.size,0,none⟩ = some (.int .i64 0):=by rw [cell_of_row _ _ _ _ _ _ hr5];rfl
  have z5 : w5.frozen? ⟨w.heap.size,0,none⟩ = false:=frozen_of_row _ _ _ _ _ hr5
  obtain ⟨W6,hW6,HX6,ha6⟩ : ∃ W6,w5.setCell ⟨w.heap.size,0,none⟩ (.int .i64 Q.1) = W6/\Hid (StoX Z Y w W6 s j d (n + 2) Q.2.1 Q.2.2.1 Q.2.2.2)/\W6.cell? ⟨w.heap.size,0,none⟩ = some (.int .i64 Q.1):=by
   have h1:=HSz.out
   have h2:=HB3.out.2
   exact ⟨_,rfl,StoX.cell H0.out hX5 HB3.out.1 (Nat.le_refl _) (by omega) ((Tr.refl (One w.heap.size) w5).set1 0 _),World.cell?_setCell_same w5 ⟨w.heap.size,0,none⟩ _ f5⟩
  clear hX5 hr5
  go_wp2
  refine leaves_cons (f:=40) (args:=#[.pointer (some ⟨s,0,none⟩),.pointer (some ⟨w.heap.size,0,none⟩)]) (by simp) (by simp [go_sem]) ?_
  refine (stop_end Q HX6.out (fun _=>H0.out.st.ys) w.heap.size .returning ha6 (fun e=>by have:=H0.out.st.lt _ H0.out.st.ys;omega)).mono ?_
  rintro e u' w'' ⟨rfl,rfl,h8,h9⟩
  exact ⟨_,result_put _ _ w.heap.size _ rfl h9,by rw [HF.out],by rw [HF.out];exact h8⟩
 ·have hneb : (ne != 0) = true:=by simp [hne]
  have HF : Hid (R = stopF (ne,D,J,S)):=by show _ = _;rw [HP.out,if_neg hne]
  go_upto_region 3 with (fail)
  clear hW2 hW3 f0 z0
  obtain ⟨W4,hW4,HX4,ha4⟩ : ∃ W4,W3.setCell ⟨w.heap.size,0,none⟩ (.int .i64 ne) = W4/\Hid (StoX Z Y w W4 s j d (n + 2) D J S)/\W4.cell? ⟨w.heap.size,0,none⟩ = some (.int .i64 ne):=by
   have hb : Below w.heap.size w (W3.setCell ⟨w.heap.size,0,none⟩ (.int .i64 ne)):=HB3.out.1.setCell (Nat.le_refl _) _
   exact ⟨_,rfl,StoX.refl H0.out hb (by omega),World.cell?_setCell_same W3 ⟨w.heap.size,0,none⟩ _ g0⟩
  go_wp2
  refine leaves_cons (f:=40) (args:=#[.pointer (some ⟨s,0,none⟩),.pointer (some ⟨w.heap.size,0,none⟩)]) (by simp) (by simp [go_sem]) ?_
  refine (stop_end (ne,D,J,S) HX4.out (fun _=>H0.out.st.ys) w.heap.size .returning ha4 (fun e=>by have:=H0.out.st.lt _ H0.out.st.ys;omega)).mono ?_
  rintro e u' w'' ⟨rfl,rfl,h8,h9⟩
  exact ⟨_,result_put _ _ w.heap.size _ rfl h9,by rw [HF.out],by rw [HF.out];exact h8⟩
end Go.Proofs.YtilkdeghknjjhaaGreatDoor
