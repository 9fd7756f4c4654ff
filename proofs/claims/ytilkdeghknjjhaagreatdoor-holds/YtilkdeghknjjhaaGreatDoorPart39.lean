/- A part of the proof. -/
import Derived.Test.YtilkdeghknjjhaaGreatDoorPart37
set_option maxRecDepth 20000
set_option maxHeartbeats 3200000
set_option linter.unusedVariables false
namespace Go.Proofs.YtilkdeghknjjhaaGreatDoor
open Go.RowKit M
variable {Z : Nat->Prop} {w : World} {vf vn vs vt : Value}
structure Dk.CrOK (D : Dk) (keep : List Int) : Prop where
 len : ∀ k,k<=D.kept keep->(crN D.safe D.steps k).length<=1000000000
 lt : ∀ x ∈ crN D.safe D.steps (D.kept keep),x.f < D.files.length
 s : ∀ x ∈ crN D.safe D.steps (D.kept keep),(fl D.files x.f).s<=(fl D.files x.f).d.size
 z : ∀ f,(fl D.files f).d.size<=1000000000
 st : D.steps.length<=1000000000
theorem DiskIn.setSafe {p : Nat} {D : Dk} {v' : Value} {l : List Nm} (h : DiskIn Z w p D vf vn vs vt) (hn : RdN w v' l) (hz : InZ Z v') : DiskIn Z (w.setCell ⟨p,3,none⟩ v') p { D with safe:=l } vf vn v' vt :=
 ⟨h.zp,by rw [heap_setCell_self h.hp];rfl,own_setCell h.rf h.hp (by decide),own_setCell h.rn h.hp (by decide),own_setCell hn h.hp (by decide),own_setCell h.rt h.hp (by decide),h.zf,h.zn,hz,h.zt⟩
theorem DiskIn.setSteps0 {p : Nat} {D : Dk} (h : DiskIn Z w p D vf vn vs vt) : DiskIn Z (w.setCell ⟨p,4,none⟩ (.slice none 0 0)) p { D with steps:=[] } vf vn vs (.slice none 0 0) :=
 ⟨h.zp,by rw [heap_setCell_self h.hp];rfl,own_setCell h.rf h.hp (by decide),own_setCell h.rn h.hp (by decide),own_setCell h.rs h.hp (by decide),World.ownsRow_nil _ _ _ _,h.zf,h.zn,h.zs,fun k hk=>by simp [Value.ownBlock] at hk⟩
theorem DiskIn.step {p : Nat} {D : Dk} (h : DiskIn Z w p D vf vn vs vt) : ∃ a cap,vt = .slice a D.steps.length cap/\(0 < D.steps.length->∃ g,a = some ⟨g,0,none⟩/\∀ j,j < D.steps.length ->
  w.cell? ⟨g,j * 4,none⟩ = some (.int .i64 (stp D.steps j).k)/\w.cell? ⟨g,j * 4 + 1,none⟩ = some (.string (stp D.steps j).fr)/\w.cell? ⟨g,j * 4 + 2,none⟩ = some (.string (stp D.steps j).to)/\w.cell? ⟨g,j * 4 + 3,none⟩ = some (.int .i64 (stp D.steps j).f)):=by
 obtain ⟨a,cap,hv,h1,h2,h3⟩:=own_cells h.rt
 refine ⟨a,cap,hv,fun h0=>?_⟩
 obtain ⟨g,ha,_,hc⟩:=h3 h0
 refine ⟨g,ha,fun j hj=>?_⟩
 have e : ∀ (l : List Stp) (j : Nat),j < l.length->(cellsT l)[j * 4]? = some (.int .i64 (stp l j).k)/\(cellsT l)[j * 4 + 1]? = some (.string (stp l j).fr)/\(cellsT l)[j * 4 + 2]? = some (.string (stp l j).to)/\(cellsT l)[j * 4 + 3]? = some (.int .i64 (stp l j).f):=by
  intro l
  induction l with
  | nil=>intro j h;exact absurd h (by simp)
  | cons e r ih =>
   intro j h
   cases j with
   | zero=>simp [cellsT,stp]
   | succ j =>
    have:=ih j (by simpa using h)
    rw [show (j + 1) * 4 = j * 4 + 1 + 1 + 1 + 1 by omega]
    simpa [cellsT,stp] using this
 obtain ⟨e0,e1,e2,e3⟩:=e D.steps j hj
 exact ⟨hc _ _ e0,hc _ _ e1,hc _ _ e2,hc _ _ e3⟩
theorem crF_len (files : List Fl) (l : List Nm) (keep : List Int) : ∀ i,(crF files l keep i).length = files.length
 | 0=>rfl
 | i + 1=>by
  show ((crF files l keep i).set _ _).length = _
  rw [List.length_set,crF_len files l keep i]
theorem crF_le {files : List Fl} {l : List Nm} {keep : List Int} (h : ∀ x ∈ l,(fl files x.f).s<=(fl files x.f).d.size/\(fl files x.f).d.size<=1000000000) : ∀ i,i<=l.length->∀ x ∈ l,(fl (crF files l keep i) x.f).s<=(fl (crF files l keep i) x.f).d.size/\(fl (crF files l keep i) x.f).d.size<=1000000000
 | 0,_,x,hx=>h x hx
 | i + 1,hi,x,hx=>by
  have ih:=crF_le (keep:=keep) h i (by omega)
  by_cases hlt : (nm l i).f < (crF files l keep i).length
  ·show (fl ((crF files l keep i).set _ _) x.f).s<=(fl ((crF files l keep i).set _ _) x.f).d.size/\(fl ((crF files l keep i).set _ _) x.f).d.size<=1000000000
   rw [fl_set hlt]
   split
   ·obtain ⟨a,b⟩:=ih (nm l i) (by rw [nm_get l i (by omega)];exact List.getElem_mem _)
    have:=Fl.left_le _ a keep (i + 1)
    unfold Fl.cutTo
    show (fl (crF files l keep i) (nm l i).f).left keep (i + 1)<=((fl (crF files l keep i) (nm l i).f).d.extract 0 _).size/\((fl (crF files l keep i) (nm l i).f).d.extract 0 _).size<=_
    rw [ByteArray.size_extract]
    omega
   ·exact ih x hx
  ·have : crF files l keep (i + 1) = crF files l keep i:=List.set_eq_of_length_le (by omega)
   rw [this];exact ih x hx
theorem RdI.tr0 {Y : Nat->Prop} {w' : World} {v : Value} {l : List Int} (h : RdI w v l) (t : Tr Y w w') (hz : 0 < l.length->InZ (fun k=>¬ Y k) v) : RdI w' v l:=by
 by_cases h0 : 0 < l.length
 ·exact h.tr t (hz h0)
 ·obtain ⟨a,cap,hv,hc,h1⟩:=h
  exact ⟨a,cap,hv,hc,fun hh=>absurd hh h0⟩
theorem Crash_any (Z : Nat->Prop) (p : Nat) (D : Dk) (v : Value) (keep : List Int) (w : World) (h : DiskAt Z w p D) (hc : D.CrOK keep) (hz : Opn Z w) (hk : RdI w v keep) (hkz : 0 < keep.length->InZ (fun k=>¬ Z k) v) (hk64 : In64 keep) (hkl : keep.length<=1000000000000000) :
  Calls Tryz.prog 16 #[.pointer (some ⟨p,0,none⟩),v] w fun e w'=>e = .returned (.tuple #[])/\DiskAt Z w' p (D.crash keep)/\Tr Z w w':=by
 obtain ⟨vf,vn,vs,vt,h⟩:=h
 obtain ⟨at_,ct,hvt,hSt⟩:=h.step
 subst hvt
 have HP : Hid (∀ X (i m : Nat),Tr Z w X->i<=1000000000000->0 < m->m<=1000000000000->Calls Tryz.prog 42 #[v,.int .i64 i,.int .i64 m] X fun e w'=>e = .returned (.int .i64 (pickK keep i m))/\w' = X):=fun X i m hX hi hm0 hm1=>by
  have:=dpick_any v keep i m X (hk.tr0 hX hkz) hk64 hkl hi (by omega) (by omega)
  exact this
 obtain ⟨ak,ck,hvk⟩ : ∃ a c,v = .slice a keep.length c:=by obtain ⟨a,c,hh,_⟩:=hk;exact ⟨a,c,hh⟩
 have c4 : w.cell? ⟨p,4,none⟩ = some (.slice at_ D.steps.length ct):=(h.cell 4).trans rfl
 have s0 : (0 : Int)<=(D.steps.length : Int):=by omega
 have s1 : (D.steps.length : Int)<=1000000000:=by have:=hc.st;omega
 have hp0:=HP.out w 0 (D.steps.length + 1) (Tr.refl Z w) (by omega) (by omega) (by have:=hc.st;omega)
 rw [show ((D.steps.length + 1 : Nat) : Int) = (D.steps.length : Int) + 1 by omega,show ((0 : Nat) : Int) = 0 by rfl] at hp0
 have hkn : pickK keep 0 ((D.steps.length : Int) + 1) = (D.kept keep : Int):=by
  have:=pickK_lt keep 0 (n:=(D.steps.length : Int) + 1) (by omega)
  unfold Dk.kept;omega
 rw [hkn] at hp0
 have hkle:=D.kept_le keep
 obtain ⟨N,hN⟩ : ∃ N,D.kept keep = N:=⟨_,rfl⟩
 rw [hN] at hp0 hkle
 have HL : Hid (∀ k,k<=N->(crN D.safe D.steps k).length<=1000000000):=by have:=hc.len;rw [hN] at this;exact this
 have HLT : Hid (∀ x ∈ crN D.safe D.steps N,x.f < D.files.length):=by have:=hc.lt;rw [hN] at this;exact this
 have HCS : Hid (∀ x ∈ crN D.safe D.steps N,(fl D.files x.f).s<=(fl D.files x.f).d.size/\(fl D.files x.f).d.size<=1000000000):=fun x hx=>⟨hc.s x (by rw [hN];exact hx),hc.z _⟩
 have HR : Hid (D.crash keep = { D with files:=crF D.files (crN D.safe D.steps N) keep (crN D.safe D.steps N).length,now:=crN D.safe D.steps N,safe:=crN D.safe D.steps N,steps:=[],wait:=-1,life:=-1 }):=by
  show _ = _;unfold Dk.crash;rw [hN]
 have HI : Hid (DiskIn Z w p D vf vn vs (.slice at_ D.steps.length ct)):=h
 have HZ : Hid (Opn Z w):=hz
 subst hvk
 clear hc hk hkz hk64 hN hkn h hz
 go_enter Tryz.func16,Tryz.ntmps16
 go_wp2_with fail
 refine hp0.mono ?_
 rintro e w1 ⟨rfl,rfl⟩
 go_upto_region 2 with (fail)
 have hd0:=HI.out
 go_loopw [5] (fun i wr=>∃ (q : Nat) (vx : Value),q<=N/\i = .int .i64 q/\Hid (DiskIn Z wr p { D with safe:=crN D.safe D.steps q } vf vn vx (.slice at_ D.steps.length ct))/\Hid (Tr Z w1 wr)) (fun i _=>N - (intOf i).toNat)
 case atStart=>exact ⟨0,vs,Nat.zero_le _,rfl,HI.out,Tr.refl _ _⟩
 case round =>
  obtain ⟨q,vx,hq,rfl,HD,HT⟩:=hrel
  obtain ⟨ax,cx,hvx⟩:=own_shape HD.out.rs
  subst hvx
  have d3 : wr.cell? ⟨p,3,none⟩ = some (.slice ax (crN D.safe D.steps q).length cx):=(HD.out.cell 3).trans rfl
  have d4 : wr.cell? ⟨p,4,none⟩ = some (.slice at_ D.steps.length ct):=(HD.out.cell 4).trans rfl
  by_cases hlt : q < N
  ·have hqs : q < D.steps.length:=by omega
   have q1 : (q : Int) < (N : Int):=by omega
   have q2 : (q : Int) < (D.steps.length : Int):=by omega
   have q0 : (0 : Int)<=(q : Int):=by omega
   obtain ⟨at2,ct2,hvt2,hSt2⟩:=HD.out.step
   injection hvt2 with h1 _ h3
   subst h1
   subst h3
   obtain ⟨g,rfl,hSt3⟩:=hSt2 (by show 0 < D.steps.length;omega)
   obtain ⟨e0,e1,e2,e3⟩:=hSt3 q hqs
   have hle:=HL.out q hq
   have HS1 : Hid (crN D.safe D.steps (q + 1) = doS (crN D.safe D.steps q) (stp D.steps q)):=rfl
   obtain ⟨L,hL⟩ : ∃ L,crN D.safe D.steps q = L:=⟨_,rfl⟩
   rw [hL] at d3 HD hle HS1
   obtain ⟨⟨sk,sf,st,si⟩,hst⟩ : ∃ x,stp D.steps q = x:=⟨_,rfl⟩
   have e0' : wr.cell? ⟨g,q * 4,none⟩ = some (.int .i64 sk):=by have:=e0;rw [show stp ({ D with safe:=L } : Dk).steps q = stp D.steps q from rfl,hst] at this;exact this
   have e1' : wr.cell? ⟨g,q * 4 + 1,none⟩ = some (.string sf):=by have:=e1;rw [show stp ({ D with safe:=L } : Dk).steps q = stp D.steps q from rfl,hst] at this;exact this
   have e2' : wr.cell? ⟨g,q * 4 + 2,none⟩ = some (.string st):=by have:=e2;rw [show stp ({ D with safe:=L } : Dk).steps q = stp D.steps q from rfl,hst] at this;exact this
   have e3' : wr.cell? ⟨g,q * 4 + 3,none⟩ = some (.int .i64 si):=by have:=e3;rw [show stp ({ D with safe:=L } : Dk).steps q = stp D.steps q from rfl,hst] at this;exact this
   have HC : Hid (∀ w',Below wr.heap.size wr w'->Calls Tryz.prog 43 #[.slice ax L.length cx,.agg #[.int .i64 sk,.string sf,.string st,.int .i64 si]] w' fun e w''=>∃ v',e = .returned v'/\w''.ownsRow w'.heap.size 102 2 v' (doS L ⟨sk,sf,st,si⟩).length (cellsN (doS L ⟨sk,sf,st,si⟩))/\Below w'.heap.size w' w''):=fun w' hb' =>
    do_any _ L ⟨sk,sf,st,si⟩ w' (own_below HD.out.rs hb') hle
   have HQ : Hid (q + 1<=N):=hlt
   rw [hst] at HS1
   clear e0 e1 e2 e3 hSt3 hL hst hlt hqs hle hSt hd0 hp0 c4
   go_upto_region 4 with (fail)
   go_region_with (go_at_call 43;refine (HC.out _ (by repeat (first | exact Below.refl _ _ | refine Below.drew ?_ | refine below_drewN ?_ _))).mono ?_;rintro e w5 ⟨v5,rfl,hown5,hb5'⟩;have hb5 : Below wr.heap.size wr w5:=(by repeat (first | exact hb5' | exact Below.refl _ _ | refine Below.trans ?_ hb5' | refine Below.drew ?_ | refine below_drewN ?_ _));have k3 : w5.cell? ⟨p,3,none⟩ = some (.slice ax L.length cx):=((HD.out.below hb5).cell 3).trans rfl;have fz5:=(HD.out.below hb5).frozen;obtain ⟨a5,r5,hv5,_,_,_⟩:=own_cells hown5;subst hv5)
   all_goals
    go_wp2
    go_roundw
    case rel=>exact ⟨q + 1,_,HQ.out,by go_num,by rw [HS1.out];show DiskIn Z _ p { D with safe:=doS L ⟨sk,sf,st,si⟩ } vf vn _ _;exact DiskIn.setSafe (D:={ D with safe:=L }) (HD.out.below hb5) (own_base hown5 (Nat.zero_le _)) (fun k hk=>(HZ.out.tr HT.out) k (hown5.lt k hk).1),(HT.out.trans (below_tr hb5 Z)).setCell HD.out.zp _⟩
    case measure=>have:=HQ.out;simp [intOf];omega
  ·have hqN : q = N:=by omega
   subst hqN
   have q1 : ¬ (q : Int) < (q : Int):=by omega
   obtain ⟨L,hL⟩ : ∃ L,crN D.safe D.steps q = L:=⟨_,rfl⟩
   have hLl : L.length<=1000000000:=by rw [<- hL];exact HL.out q (Nat.le_refl _)
   rw [hL] at d3 HD HLT HR HCS
   have d2 : wr.cell? ⟨p,2,none⟩ = some vn:=(HD.out.cell 2).trans rfl
   have fz:=HD.out.frozen
   obtain ⟨W6,hW6,HD6,HT6⟩ : ∃ W6,(wr.setCell ⟨p,2,none⟩ (.slice ax L.length cx)).setCell ⟨p,4,none⟩ (.slice none 0 0) = W6/\Hid (DiskIn Z W6 p { D with now:=L,safe:=L,steps:=[] } vf (.slice ax L.length cx) (.slice ax L.length cx) (.slice none 0 0))/\Hid (Tr Z w1 W6):=by
    have a1:=DiskIn.setN (l:=L) HD.out HD.out.rs HD.out.zs
    exact ⟨_,rfl,a1.setSteps0,(HT.out.setCell (p:=⟨p,2,none⟩) HD.out.zp _).setCell (p:=⟨p,4,none⟩) HD.out.zp _⟩
   clear hd0 hp0 c4 hL HL hSt s0 s1 hkle
   go_upto_region 7 with (fail)
   clear hW6 fz d2 d3 d4 HD HT
   go_wp2_with fail
   go_loopw [6] (fun i wx=>∃ (q2 : Nat) (vy : Value),q2<=L.length/\i = .int .i64 q2/\Hid (DiskIn Z wx p { D with files:=crF D.files L keep q2,now:=L,safe:=L,steps:=[] } vy (.slice ax L.length cx) (.slice ax L.length cx) (.slice none 0 0))/\Hid (Tr Z w1 wx)) (fun i _=>L.length - (intOf i).toNat)
   case atStart=>exact ⟨0,vf,Nat.zero_le _,rfl,HD6.out,HT6.out⟩
   case round =>
    obtain ⟨q2,vy,hq2,rfl,HD,HT⟩:=hrel
    have d2 : wr.cell? ⟨p,2,none⟩ = some (.slice ax L.length cx):=(HD.out.cell 2).trans rfl
    by_cases hlt : q2 < L.length
    ·have hjl : (nm L q2).f < D.files.length:=by rw [nm_get L q2 hlt];exact HLT.out _ (List.getElem_mem _)
     have hcl:=crF_len D.files L keep q2
     obtain ⟨an2,cn2,hvn,hA⟩:=HD.out.name
     injection hvn with h1 _ h3
     subst h1
     subst h3
     obtain ⟨gn,rfl,hn⟩:=hA (by show 0 < L.length;omega)
     obtain ⟨af,cf,hvf,hF⟩:=HD.out.file
     subst hvf
     obtain ⟨gf,rfl,hf⟩:=hF (by show 0 < (crF D.files L keep q2).length;omega)
     have e1:=(hn q2 hlt).2
     have e2:=(hf (nm L q2).f (by show _ < (crF D.files L keep q2).length;omega)).1
     have e3:=(hf (nm L q2).f (by show _ < (crF D.files L keep q2).length;omega)).2
     have d1 : wr.cell? ⟨p,1,none⟩ = some (.slice (some ⟨gf,0,none⟩) (crF D.files L keep q2).length cf):=(HD.out.cell 1).trans rfl
     obtain ⟨hle1,hle2⟩:=crF_le (l:=L) (keep:=keep) HCS.out q2 hq2 (nm L q2) (by rw [nm_get L q2 hlt];exact List.getElem_mem _)
     have hpk0:=pickK_lt keep (q2 + 1) (n:=((fl (crF D.files L keep q2) (nm L q2).f).d.size : Int) - ((fl (crF D.files L keep q2) (nm L q2).f).s : Int) + 1) (by omega)
     have HNx : Hid (crF D.files L keep (q2 + 1) = (crF D.files L keep q2).set (nm L q2).f ((fl (crF D.files L keep q2) (nm L q2).f).cutTo ((fl (crF D.files L keep q2) (nm L q2).f).left keep (q2 + 1)))):=rfl
     have hPk:=fun X (hX : Tr Z w1 X)=>HP.out X (q2 + 1) ((fl (crF D.files L keep q2) (nm L q2).f).d.size - (fl (crF D.files L keep q2) (nm L q2).f).s + 1) hX (by omega) (by omega) (by omega)
     unfold Fl.left at HNx
     obtain ⟨j,hj⟩ : ∃ j,(nm L q2).f = j:=⟨_,rfl⟩
     rw [hj] at e1 e2 e3 hjl hle1 hle2 HNx hpk0 hPk
     obtain ⟨G,hG⟩ : ∃ G,crF D.files L keep q2 = G:=⟨_,rfl⟩
     rw [hG] at e2 e3 d1 HD hcl hle1 hle2 HNx hpk0 hPk
     obtain ⟨⟨xd,xs⟩,hFx⟩ : ∃ x,fl G j = x:=⟨_,rfl⟩
     have e2' : wr.cell? ⟨gf,j * 2,none⟩ = some (.string xd):=by have:=e2;rw [show fl ({ D with files:=G,now:=L,safe:=L,steps:=[] } : Dk).files j = fl G j from rfl,hFx] at this;exact this
     have e3' : wr.cell? ⟨gf,j * 2 + 1,none⟩ = some (.int .i64 xs):=by have:=e3;rw [show fl ({ D with files:=G,now:=L,safe:=L,steps:=[] } : Dk).files j = fl G j from rfl,hFx] at this;exact this
     rw [hFx] at hle1 hle2 HNx hpk0 hPk
     simp only at hle1 hle2 HNx hpk0 hPk
     obtain ⟨K,hK⟩ : ∃ K : Nat,pickK keep (q2 + 1) ((xd.size : Int) - (xs : Int) + 1) = (K : Int):=⟨(pickK keep (q2 + 1) ((xd.size : Int) - (xs : Int) + 1)).toNat,by omega⟩
     have hPk2 : Hid (∀ X,Tr Z w1 X->Calls Tryz.prog 42 #[.slice ak keep.length ck,.int .i64 ((q2 : Int) + 1),.int .i64 ((xd.size : Int) - (xs : Int) + 1)] X fun e w'=>e = .returned (.int .i64 (K : Int))/\w' = X):=fun X hX=>by
      have:=hPk X hX
      rw [show ((xd.size - xs + 1 : Nat) : Int) = (xd.size : Int) - (xs : Int) + 1 by omega,hK,show ((q2 + 1 : Nat) : Int) = (q2 : Int) + 1 by omega] at this
      exact this
     rw [hK] at HNx hpk0
     have hKs : xs + K<=xd.size:=by omega
     have hex : (xd.extract 0 (xs + K)).size = xs + K:=by rw [ByteArray.size_extract];omega
     have HN2 : Hid (crF D.files L keep (q2 + 1) = G.set j ⟨xd.extract 0 (xs + K),xs + K⟩):=by
      show _ = _
      rw [HNx.out]
      unfold Fl.cutTo
      simp
     have hgl : j < G.length:=by omega
     have HEnd : Hid (∀ X,Below wr.heap.size wr X->X.frozen? ⟨gf,j * 2,none⟩ = false/\(X.setCell ⟨gf,j * 2,none⟩ (.string (xd.extract 0 (xs + K)))).frozen? ⟨gf,j * 2 + 1,none⟩ = false/\DiskIn Z ((X.setCell ⟨gf,j * 2,none⟩ (.string (xd.extract 0 (xs + K)))).setCell ⟨gf,j * 2 + 1,none⟩ (.int .i64 (xs + K : Nat))) p { D with files:=crF D.files L keep (q2 + 1),now:=L,safe:=L,steps:=[] } (.slice (some ⟨gf,0,none⟩) (crF D.files L keep (q2 + 1)).length cf) (.slice (some ⟨gn,0,none⟩) L.length cx) (.slice (some ⟨gn,0,none⟩) L.length cx) (.slice none 0 0)/\Tr Z w1 ((X.setCell ⟨gf,j * 2,none⟩ (.string (xd.extract 0 (xs + K)))).setCell ⟨gf,j * 2 + 1,none⟩ (.int .i64 (xs + K : Nat)))):=fun X hX=>by
      have hq:=cellsF_at G j hgl
      rw [hFx] at hq
      obtain ⟨hq1,hq2⟩:=List.getElem?_eq_some_iff.1 hq.2
      obtain ⟨hq3,hq4⟩:=List.getElem?_eq_some_iff.1 hq.1
      have h1:=HD.out.below hX
      have c1 : cellsF (G.set j ⟨xd.extract 0 (xs + K),xs⟩) = (cellsF G).set (j * 2) (.string (xd.extract 0 (xs + K))):=by
       rw [<- cellsF_set _ _ _ hgl]
       show ((cellsF G).set _ _).set _ (.int .i64 xs) = _
       rw [List.set_comm _ _ (by omega)]
       have : (cellsF G).set (j * 2 + 1) (.int .i64 xs) = cellsF G:=by rw [<- hq2];exact List.set_getElem_self hq1
       rw [this]
      have h2:=DiskIn.setFile (D:={ D with files:=G,now:=L,safe:=L,steps:=[] }) (D':={ D with files:=G.set j ⟨xd.extract 0 (xs + K),xs⟩,now:=L,safe:=L,steps:=[] }) (o:=j * 2) (u:=.string (xd.extract 0 (xs + K))) h1 rfl (by show j * 2 < G.length * 2;omega) (by simp) c1 rfl rfl rfl (fun _ _ _ _=>rfl)
      have c2 : cellsF (G.set j ⟨xd.extract 0 (xs + K),xs + K⟩) = (cellsF (G.set j ⟨xd.extract 0 (xs + K),xs⟩)).set (j * 2 + 1) (.int .i64 (xs + K : Nat)):=by
       rw [c1,<- cellsF_set _ _ _ hgl]
      have h3:=DiskIn.setFile (D:={ D with files:=G.set j ⟨xd.extract 0 (xs + K),xs⟩,now:=L,safe:=L,steps:=[] }) (D':={ D with files:=G.set j ⟨xd.extract 0 (xs + K),xs + K⟩,now:=L,safe:=L,steps:=[] }) (o:=j * 2 + 1) (u:=.int .i64 (xs + K : Nat)) h2 rfl (by show j * 2 + 1 < (G.set j _).length * 2;rw [List.length_set];omega) (by simp) c2 rfl rfl rfl (fun _ _ _ _=>rfl)
      rw [HN2.out]
      exact ⟨h1.frozenF _,h2.frozenF _,h3,((HT.out.trans (below_tr hX Z)).setCell (p:=⟨gf,j * 2,none⟩) (h1.zf gf rfl) _).setCell (p:=⟨gf,j * 2 + 1,none⟩) (h1.zf gf rfl) _⟩
     have q1 : (q2 : Int) < (L.length : Int):=by omega
     have q0 : (0 : Int)<=(q2 : Int):=by omega
     have q9 : (q2 : Int)<=1000000000:=by omega
     have j0 : (0 : Int)<=(j : Int):=by omega
     have j1 : (j : Int) < (G.length : Int):=by omega
     have z0 : (0 : Int)<=(xs : Int):=by omega
     have z1 : (xs : Int)<=(xd.size : Int):=by omega
     have z2 : (xd.size : Int)<=1000000000:=by omega
     have k0 : (0 : Int)<=(K : Int):=by omega
     have k1 : (xs : Int) + (K : Int)<=(xd.size : Int):=by omega
     have k2 : (K : Int)<=1000000000:=by omega
     have HQ : Hid (q2 + 1<=L.length):=hlt
     obtain ⟨Ln,hLn⟩ : ∃ Ln,G.length = Ln:=⟨_,rfl⟩
     replace d1 : wr.cell? ⟨p,1,none⟩ = some (.slice (some ⟨gf,0,none⟩) Ln cf):=by rw [<- hLn];exact d1
     rw [hLn] at j1
     have HTr : Hid (Tr Z w1 wr):=HT.out
     have hw0 : Below wr.heap.size wr wr:=Below.refl _ _
     clear e2 e3 hn hf hA hF hcl hjl hle1 hle2 HNx hpk0 hPk hK hKs hex HN2 hgl hFx hG hj hlt hq2 HD HT hLn HD6 HT6
     go_upto_region 10 with (fail)
     go_quiet (fail)
     obtain ⟨X1,hX1,hbX1⟩ : ∃ X,wr.drewN nq = X/\Below wr.heap.size wr X:=⟨_,rfl,below_drewN hw0 _⟩
     rw [hX1]
     go_upto_region 11 with (fail)
     have e2x:=cell_later hbX1 e2'
     have e3x:=cell_later hbX1 e3'
     have HTX1 : Hid (Tr Z w1 X1):=HTr.out.trans (below_tr hbX1 Z)
     clear hX1 nq e2' e3' d1 d2 e1
     have hcw1 : IntKind.i64.wrap ((q2 : Int) + 1) = (q2 : Int) + 1:=wrap_in _ (by omega) (by omega)
     have hcw2 : IntKind.i64.wrap ((xd.size : Int) - (xs : Int)) = (xd.size : Int) - (xs : Int):=wrap_in _ (by omega) (by omega)
     have hcw3 : IntKind.i64.wrap ((xd.size : Int) - (xs : Int) + 1) = (xd.size : Int) - (xs : Int) + 1:=wrap_in _ (by omega) (by omega)
     go_quiet ((go_at_call 42;refine (hPk2.out _ (by repeat (first | exact HTX1.out | refine Tr.drewN ?_ _ | refine Tr.drew ?_))).mono ?_;exact fun e w' h=>⟨h.1,_,h.2⟩))
     obtain ⟨X2,hX2,hbX2⟩ : ∃ X,X1.drewN nq = X/\Below X1.heap.size X1 X:=⟨_,rfl,below_drewN (Below.refl _ _) _⟩
     rw [hX2]
     go_upto_region 12 with (fail)
     have e2y:=cell_later hbX2 e2x
     have e3y:=cell_later hbX2 e3x
     obtain ⟨m,hm⟩ : ∃ m,xs + K = m:=⟨_,rfl⟩
     have m0 : (0 : Int)<=(m : Int):=by omega
     have m1 : (m : Int)<=(xd.size : Int):=by omega
     have hcw4 : IntKind.i64.wrap ((xs : Int) + (K : Int)) = (m : Int):=by rw [wrap_in _ (by omega) (by omega)];omega
     have hex : (xd.extract 0 m).size = m:=by rw [ByteArray.size_extract];omega
     rw [hm] at HEnd
     have HEx : Hid ((xd.extract 0 m).size = m):=hex
     have hbX3 : Below wr.heap.size wr X2.drew:=Below.drew (belowN hbX1 hbX2)
     have HBX : Hid (Below wr.heap.size wr X2):=belowN hbX1 hbX2
     obtain ⟨hfz0,hfz1,_,_⟩:=HEnd.out X2 HBX.out
     clear hm hex hcw1 hcw2 hcw3 hPk2 hX2 e2x e3x hbX1 hbX2 hbX3
     go_region
     all_goals
      have hex:=HEx.out
      go_wp2
      obtain ⟨_,_,g3,g4⟩:=HEnd.out X2 HBX.out
      go_roundw
      case rel=>exact ⟨q2 + 1,_,HQ.out,by go_num,g3.below (Below.drew (Below.refl _ _)),g4.drew⟩
      case measure=>have:=HQ.out;simp [intOf];omega
    ·have q1 : ¬ (q2 : Int) < (L.length : Int):=by omega
     have hqe : q2 = L.length:=by omega
     subst hqe
     have d5 : wr.cell? ⟨p,5,none⟩ = some (.int .i64 D.wait):=(HD.out.cell 5).trans rfl
     have d6 : wr.cell? ⟨p,6,none⟩ = some (.int .i64 D.life):=(HD.out.cell 6).trans rfl
     have fz:=HD.out.frozen
     have HF : Hid (DiskAt Z ((wr.setCell ⟨p,5,none⟩ (.int .i64 (-1))).setCell ⟨p,6,none⟩ (.int .i64 (-1))) p (D.crash keep)/\Tr Z w1 ((wr.setCell ⟨p,5,none⟩ (.int .i64 (-1))).setCell ⟨p,6,none⟩ (.int .i64 (-1)))):=by
      refine ⟨?_,(HT.out.setCell (p:=⟨p,5,none⟩) HD.out.zp _).setCell (p:=⟨p,6,none⟩) HD.out.zp _⟩
      rw [HR.out]
      have a1:=HD.out.setCell (D':={ D with files:=crF D.files L keep L.length,now:=L,safe:=L,steps:=[],wait:=-1 }) 5 (.int .i64 (-1)) rfl rfl rfl rfl rfl
      exact ⟨_,_,_,_,a1.setCell (D':={ D with files:=crF D.files L keep L.length,now:=L,safe:=L,steps:=[],wait:=-1,life:=-1 }) 6 (.int .i64 (-1)) rfl rfl rfl rfl rfl⟩
     clear HD HT HD6 HT6
     go_wp2
     go_end0
     exact ⟨rfl,HF.out.1,HF.out.2⟩
end Go.Proofs.YtilkdeghknjjhaaGreatDoor
