/- A part of the proof. -/
import Derived.Test.YtilkdeghknjjhaaGreatDoorPart44
set_option maxRecDepth 20000
set_option maxHeartbeats 3200000
set_option linter.unusedVariables false
namespace Go.Proofs.YtilkdeghknjjhaaGreatDoor
open Go.RowKit M
variable {nd : Int} {ms : List Mt} {ls : List ByteArray}
theorem good_key : ∀ (ms : List Mt) (M : ByteArray->Se) (c : Int),GoodM nd M c ms->∀ m ∈ ms,keyOK m.k = true
 | [],M,c,_,m,hm=>by simp at hm
 | x :: ms,M,c,h,m,hm=>by
  rcases List.mem_cons.1 hm with rfl | hm
  ·exact h.1.key
  ·exact good_key ms _ _ h.2 m hm
theorem ofTo_none (node : Int) (H : List Mu) (key : ByteArray) : ∀ i,i<=H.length->(∀ j,j < i->(mu H j).k ≠ key)->ofTo node H key i = Se.nil
 | 0,_,_=>rfl
 | i + 1,hi,h=>by
  unfold ofTo
  rw [if_neg (fun e=>h i (by omega) (bytes_eq e))]
  exact ofTo_none node H key i (by omega) fun j hj=>h j (by omega)
theorem keys_iff (hg : GoodM nd zM 0 ms) (k : ByteArray) : (runMt zM ms k).L ≠ [] ↔ (∃ i,i < (ms.map Mt.mu).length/\(mu (ms.map Mt.mu) i).k = k)/\k ≠ ByteArray.empty/\(ofM nd (ms.map Mt.mu) k).L ≠ []:=by
 rw [run_of nd _ ms rfl hg k]
 constructor
 ·intro h
  have hex : ∃ i,i < (ms.map Mt.mu).length/\(mu (ms.map Mt.mu) i).k = k:=by
   refine Classical.byContradiction fun hn=>h ?_
   have:=ofTo_none nd (ms.map Mt.mu) k (ms.map Mt.mu).length (Nat.le_refl _) fun j hj e=>hn ⟨j,hj,e⟩
   unfold ofM
   rw [this];rfl
  refine ⟨hex,fun e=>?_,h⟩
  obtain ⟨i,hi,hk⟩:=hex
  have hi2 : i < ms.length:=by simpa using hi
  have hm : mu (ms.map Mt.mu) i = ms[i].mu:=by rw [mu_get _ _ hi];simp
  rw [hm] at hk
  have h1:=good_key ms zM 0 hg ms[i] (List.getElem_mem _)
  have hk : ms[i].k = k:=hk
  rw [hk,e] at h1
  exact absurd h1 (by decide)
 ·exact fun h=>h.2.2
theorem keys_same (hg : GoodM nd zM 0 ms) {ks : List ByteArray} (h1 : StKeys (runMt zM ms) ks) (h2 : KeysOf nd (ms.map Mt.mu) ls) : ks = ls :=
 rising_eq h1.1 h2.1 fun k=>by rw [h1.2,h2.2];exact keys_iff hg k
theorem nodup_le {α : Type} [DecidableEq α] : ∀ (l m : List α),l.Nodup->(∀ x ∈ l,x ∈ m)->l.length<=m.length
 | [],m,_,_=>Nat.zero_le _
 | a :: l,m,hn,hs=>by
  have ham:=hs a (by simp)
  have ih:=nodup_le l (m.erase a) (List.nodup_cons.1 hn).2 fun x hx=>(List.mem_erase_of_ne (show x ≠ a from fun e=>(List.nodup_cons.1 hn).1 (by rw [<- e];exact hx))).2 (hs x (by simp [hx]))
  rw [List.length_erase_of_mem ham] at ih
  have : 0 < m.length:=List.length_pos_of_mem ham
  simp
  omega
theorem keys_len (h : KeysOf nd (ms.map Mt.mu) ls) : ls.length<=ms.length:=by
 classical
 have hnd : ls.Nodup:=h.1.imp fun {a b} hab e=>by rw [e,bl_irr] at hab;cases hab
 have:=nodup_le ls (ms.map Mt.k) hnd fun x hx=>by
  obtain ⟨⟨i,hi,hk⟩,_⟩:=(h.2 x).1 hx
  have hi2 : i < ms.length:=by simpa using hi
  have hm : mu (ms.map Mt.mu) i = ms[i].mu:=by rw [mu_get _ _ hi];simp
  rw [hm] at hk
  exact List.mem_map.2 ⟨ms[i],List.getElem_mem _,hk⟩
 simpa using this
end Go.Proofs.YtilkdeghknjjhaaGreatDoor
namespace Go.Proofs.YtilkdeghknjjhaaGreatDoor
open Go.RowKit M Go.Maps
variable {Z Y : Nat->Prop} {w : World} {s j p d n : Nat} {mv mg : Value} {D : Dk} {J : Jn} {S : St}
structure PreS (Z Y : Nat->Prop) (w : World) (s d : Nat) (mv : Value) (n : Nat) (D : Dk) (S : St) : Prop where
 dk : DiskAt Z w d D
 st : StIn Y w s (.pointer (some ⟨d,0,none⟩)) (.pointer none) mv n S
 vs : Vars w
 dj : ∀ k,Z k->Y k->False
 lz : ∀ k,Z k->k < w.heap.size
 v5 : ∀ k,k < 5->¬ Z k/\¬ Y k
theorem OpS.open_ (h : OpS Z Y w s j p d mv mg n D J S) : Side (Zn Z w.heap.size) w j d D J/\Apart (Zn Z w.heap.size) j:=by
 refine ⟨⟨h.side.dk.mono fun k hk=>.inl hk,h.side.jn,h.side.vs⟩,⟨fun hj=>?_,fun k hk hz=>?_,h.j5⟩⟩
 ·rcases hj with hj | hj
  ·exact h.zj hj
  ·have:=h.jlt.1;omega
 ·rcases hz with hz | hz
  ·exact (h.v5 k hk).1 hz
  ·have:=h.side.vs.five;omega
theorem OpS.disk {w' : World} {D' : Dk} (h : OpS Z Y w s j p d mv mg n D J S) (hs : Side (Zn Z w.heap.size) w' j d D' J) (t : Tr (Zn Z w.heap.size) w w') : OpS (Yn Z w.heap.size w'.heap.size) Y w' s j p d mv mg n D' J S:=by
 obtain ⟨hj,hp⟩:=h.jlt
 refine ⟨⟨hs.dk.close.mono fun k hk=>?_,hs.jn,hs.vs⟩,h.st.tr t (fun k hk hz=>?_),h.rp.tr t (fun hz=>?_),fun hz=>?_,h.yj,fun hz=>?_,h.yp,h.jp,fun k hz hy=>?_,fun k hz=>?_,fun k hk=>⟨fun hz=>?_,(h.v5 k hk).2⟩,h.j5,h.p5⟩
 ·obtain ⟨hz | hz,hl⟩:=hk
  ·exact .inl hz
  ·exact .inr ⟨hz,hl⟩
 ·rcases hz with hz | hz
  ·exact h.dj k hz hk
  ·have:=h.st.lt k hk;omega
 ·rcases hz with hz | hz
  ·exact h.zp hz
  ·omega
 ·rcases hz with hz | hz
  ·exact h.zj hz
  ·omega
 ·rcases hz with hz | hz
  ·exact h.zp hz
  ·omega
 ·rcases hz with hz | hz
  ·exact h.dj k hz hy
  ·have:=h.st.lt k hy;omega
 ·rcases hz with hz | hz
  ·exact Nat.lt_of_lt_of_le (h.lz k hz) t.size
  ·exact hz.2
 ·rcases hz with hz | hz
  ·exact (h.v5 k hk).1 hz
  ·have:=h.side.vs.five;omega
def JOpenE (Z Y : Nat->Prop) (w w' : World) (e : Ending) (s d n : Nat) (D : Dk) (ms : List Mt) (roll hd : Nat) (S : St) : Prop :=
 ∃ j p Z' Y' mv' mg' n' J,e = .returned (if (jsync D J).1 = true then .tuple #[.pointer (some ⟨j,0,none⟩),.bool true] else .tuple #[.pointer none,.bool false])/\w.heap.size<=j/\n'<=n/\J.roll = roll/\J.size<=100000/\JDJ D ms J false hd/\OpS Z' Y' w' s j p d mv' mg' n' (jsync D J).2 J S /\
  (∀ k,Z' k->Z k\/w.heap.size<=k)/\(∀ k,Y' k->Y k\/w.heap.size<=k)/\Tr (fun k=>Z k\/Y k) w w'
theorem jOpen_live (Z Y : Nat->Prop) (s d : Nat) (mv : Value) (n : Nat) (D : Dk) (S : St) (roll : Nat) (nd : Int) (ms : List Mt) (k sz : Nat) (cut sy : Bool) (hd : Nat) (w : World) (h : PreS Z Y w s d mv n D S) (hwf : D.WF) (hbu : D.Bud 2) (hl : D.life ≠ 0) (hJ : JD D ms k sz cut sy hd) (hg : GoodM nd S.M S.cnt ms) (hr : roll<=100000) (hkf : D.files.length<=100000000)
  (hn : n + ms.length + k < 10000000000) (hc0 : 0<=S.cnt) (hc1 : S.cnt + ms.length<=4611686018427380000) :
  Calls Tryz.prog 85 #[.pointer (some ⟨d,0,none⟩),.int .i64 roll,.func (.func 86) #[.pointer (some ⟨s,0,none⟩)] #[],.func (.func 87) #[.pointer (some ⟨s,0,none⟩)] #[]] w fun e w'=>JOpenE Z Y w w' e s d (n + ms.length + k) D ms roll hd (runS S ms):=by
 have hk:=hJ.kf
 obtain ⟨a,F,B,T,g1,g2,g3,g4,g5⟩:=hJ
 obtain ⟨is,i1,i2,i3,i4⟩:=g1.nums (by omega)
 have hw5:=h.vs.five
 obtain ⟨W1,hW1,HB1,HR1⟩ : ∃ W1,w.alloc (.cells #[.pointer (some ⟨d,0,none⟩),.int .i64 roll,.int .i64 0,.int .i64 0,.bool false] 199) = W1/\Hid (Below w.heap.size w W1/\W1.heap.size = w.heap.size + 1)/\Hid (JAt W1 w.heap.size d ⟨roll,0,0,false⟩) :=
  ⟨_,rfl,⟨(Below.refl _ _).alloc (Nat.le_refl _) _,by simp⟩,heap_alloc_new w _⟩
 obtain ⟨W2,hW2,HB2,HO2⟩ : ∃ W2,W1.alloc (.cells (repRow s (.pointer none)) 220) = W2/\Hid (Below w.heap.size w W2/\W2.heap.size = w.heap.size + 2)/\Hid (OpS Z Y W2 s w.heap.size W1.heap.size d mv (.pointer none) n D ⟨roll,0,0,false⟩ S):=by
  have hb12 : Below W1.heap.size W1 (W1.alloc (.cells (repRow s (.pointer none)) 220)):=(Below.refl _ _).alloc (Nat.le_refl _) _
  have hb : Below w.heap.size w (W1.alloc (.cells (repRow s (.pointer none)) 220)):=belowN HB1.out.1 hb12
  have hs1:=HB1.out.2
  have hsz : (W1.alloc (.cells (repRow s (.pointer none)) 220)).heap.size = w.heap.size + 2:=by simp;omega
  refine ⟨_,rfl,⟨hb,hsz⟩,⟨⟨h.dk.below hb,HR1.out.below hb12,h.vs.below hb⟩,h.st.below hb,heap_alloc_new W1 _,fun hz=>?_,fun hy=>?_,fun hz=>?_,fun hy=>?_,by omega,h.dj,fun q hq=>?_,h.v5,hw5,by omega⟩⟩
  ·have:=h.lz _ hz;omega
  ·have:=h.st.lt _ hy;omega
  ·have:=h.lz _ hz;omega
  ·have:=h.st.lt _ hy;omega
  ·have:=h.lz q hq;omega
 have hp1 : W1.heap.size = w.heap.size + 1:=HB1.out.2
 unfold repRow at hW2
 have HLi : Hid (∀ X,OpS Z Y X s w.heap.size W1.heap.size d mv (.pointer none) n D ⟨roll,0,0,false⟩ S->Calls Tryz.prog 123 #[.pointer (some ⟨d,0,none⟩)] X fun e w'=>∃ v,e = .returned v/\w'.ownsRow 0 9 1 v is.length (cellsX (is.map fnm))/\Below X.heap.size X w'):=fun X hX=>by
  refine (List_any Z d D X hX.side.dk hwf.ok).mono ?_
  rintro e w' ⟨v',he,ho,hb⟩
  refine ⟨v',he,?_,hb⟩
  unfold Dk.list at ho
  rw [if_neg hl,i1] at ho
  unfold OwnX at ho
  rw [List.length_map] at ho
  exact own_base ho (Nat.zero_le _)
 have HNu : Hid (∀ X v,OpS Z Y X s w.heap.size W1.heap.size d mv (.pointer none) n D ⟨roll,0,0,false⟩ S->X.ownsRow 0 9 1 v is.length (cellsX (is.map fnm))->Calls Tryz.prog 146 #[v] X fun e w'=>∃ v',e = .returned v'/\w'.ownsRow X.heap.size 3 1 v' k (cellsI (numsI (List.range' 1 k)))/\Below X.heap.size X w'):=fun X v hX hv=>by
  have:=numbers_any is v X hv (by omega) (fun i hi=>by have:=(i2 i).1 hi;omega) hX.side.vs
  rw [i4,i3] at this
  exact this
 have HNe : Hid (∀ X v B0,OpS Z Y X s w.heap.size W1.heap.size d mv (.pointer none) n D ⟨roll,0,0,false⟩ S->X.ownsRow B0 3 1 v k (cellsI (numsI (List.range' 1 k)))->Calls Tryz.prog 145 #[.pointer (some ⟨w.heap.size,0,none⟩),v] X fun e w'=>e = .returned v/\Below X.heap.size X w'):=fun X v B0 hX hv=>by
  have hlr : (List.range' 1 k).length = k:=List.length_range'
  refine needed_all Z w.heap.size d D _ (List.range' 1 k) v X hX.side hwf ?_ (by omega) (fun i hi=>?_)
  ·rw [hlr];exact own_base hv (Nat.zero_le _)
  ·have:=List.mem_range'_1.1 hi
   exact ⟨by omega,g1.no_hint i⟩
 have HRd : Hid (∀ X t Y' mv' mg' n' J,t < k->n'<=n + (allB B t).length + t->OpS Z Y' X s w.heap.size W1.heap.size d mv' mg' n' D J (runS S (allB B t))->J.num = t->J.roll = roll->Calls Tryz.prog 147 #[.pointer (some ⟨w.heap.size,0,none⟩),.int .i64 ((t + 1 : Nat) : Int),.pointer (some ⟨W1.heap.size,0,none⟩)] X fun e w'=>e = .returned (.bool true)/\∃ J',J'.num = t + 1/\J'.roll = roll/\J'.size = (fl D.files (F (t + 1))).d.size/\(J'.cut = true ↔ T (t + 1) ≠ [])/\ReadE Z Y' X w' s w.heap.size W1.heap.size d (n + (allB B (t + 1)).length + (t + 1)) D J' (runS S (allB B (t + 1)))):=fun X t Y' mv' mg' n' J ht hn' hX hjn hjr=>by
  have hpre:=allB_prefix B k (t + 1) (by omega)
  have hga : GoodM nd S.M S.cnt (allB B (t + 1)):=by
   obtain ⟨c,hc⟩:=hpre
   rw [<- g2,<- hc] at hg
   exact ((good_app (allB B (t + 1)) c S.M S.cnt).1 hg).1
  have hga2:=(good_app (allB B t) (B (t + 1)) S.M S.cnt).1 hga
  have hrs:=(good_ok (allB B t) S hga2.1).2
  have hle : (allB B (t + 1)).length<=ms.length:=by rw [<- g2];exact hpre.length_le
  have hls : (allB B (t + 1)).length = (allB B t).length + (B (t + 1)).length:=by show (allB B t ++ B (t + 1)).length = _;rw [List.length_append]
  have hat:=g1.at_ (i:=t + 1) (by omega) (by omega)
  have hda : D.dataOf (fnm (t + 1)) = (fl D.files (F (t + 1))).d:=by unfold Dk.dataOf;rw [hat.2]
  have hb1:=g1.bnd (t + 1) (by omega) (by omega)
  have:=read_any Z Y' s w.heap.size W1.heap.size d mv' mg' n' D J (runS S (allB B t)) (t + 1) (fl D.files (F (t + 1))).d nd (B (t + 1)) (T (t + 1)) X hX hwf hl hat.1 hda (g1.dat (t + 1) (by omega) (by omega)) (by omega) (g1.ok (t + 1) (by omega) (by omega)).2 (g1.ok (t + 1) (by omega) (by omega)).1 (by rw [hrs];exact hga2.2) (by omega) (by rw [hrs];show 0<=S.cnt + _;omega) (by rw [hrs];show S.cnt + _ + _<=_;omega) (by omega) (by omega)
  refine this.mono ?_
  rintro e w' ⟨he,⟨Y2,mv2,mg2,n2,hn2,h2,h3⟩,t2⟩
  refine ⟨he,⟨J.roll,t + 1,(fl D.files (F (t + 1))).d.size,decide (T (t + 1) ≠ [])⟩,rfl,hjr,rfl,by simp,⟨Y2,mv2,mg2,n2,by omega,?_,h3⟩,t2⟩
  show OpS Z Y2 w' s w.heap.size W1.heap.size d mv2 mg2 n2 D _ (runS S (allB B t ++ B (t + 1)))
  rw [runS_app];exact h2
 have HSy : Hid (∀ X Y' mv' mg' n' J,OpS Z Y' X s w.heap.size W1.heap.size d mv' mg' n' D J (runS S ms)->J.num = k->Calls Tryz.prog 69 #[.pointer (some ⟨w.heap.size,0,none⟩)] X fun e w'=>e = .returned (.bool (jsync D J).1)/\OpS (Yn Z X.heap.size w'.heap.size) Y' w' s w.heap.size W1.heap.size d mv' mg' n' (jsync D J).2 J (runS S ms)/\Tr (Zn Z X.heap.size) X w'):=fun X Y' mv' mg' n' J hX hjn=>by
  obtain ⟨o1,o2⟩:=hX.open_
  refine (jSync_any (Zn Z X.heap.size) w.heap.size d D J X o1 o2 hwf hbu (by omega)).mono ?_
  rintro e w' ⟨he,h1,t1⟩
  exact ⟨he,hX.disk h1 t1,t1⟩
 have HJJ : Hid (∀ J : Jn,J.num = k->(1<=k->J.size = (fl D.files (F k)).d.size/\(J.cut = true ↔ T k ≠ []))->JDJ D ms J false hd):=fun J h1 h2=>by
  show JD D ms J.num J.size J.cut false hd
  rw [h1]
  exact ⟨a,F,B,T,g1,g2,g3,h2,fun hh=>by cases hh⟩
 have HB0 : Hid (allB B k = ms):=g2
 have HBd : Hid (∀ i,1<=i->i<=k->(fl D.files (F i)).d.size<=100000):=g1.bnd
 have hk1 : (k : Int)<=100000000:=by omega
 have hk2 : k<=100000000:=by omega
 have HP1 : Hid (W1.heap.size = w.heap.size + 1):=hp1
 clear hp1
 have HYl : Hid (∀ q,Y q->q < w.heap.size):=h.st.lt
 clear h hwf hbu hl hg g1 g2 g3 g4 g5 i1 i2 i3 i4 HR1
 go_enter Tryz.func85,Tryz.ntmps85
 go_upto_region 2 with (fail)
 clear hW1
 go_upto_region 3 with (fail)
 clear hW2
 go_wp2_with fail
 refine (HLi.out W2 HO2.out).mono ?_
 rintro e w3 ⟨v3,rfl,ho3,hb3⟩
 have HO3 : Hid (OpS Z Y w3 s w.heap.size W1.heap.size d mv (.pointer none) n D ⟨roll,0,0,false⟩ S):=HO2.out.below hb3
 go_wp2_with fail
 refine (HNu.out w3 v3 HO3.out ho3).mono ?_
 rintro e w4 ⟨v4,rfl,ho4,hb4⟩
 have HO4 : Hid (OpS Z Y w4 s w.heap.size W1.heap.size d mv (.pointer none) n D ⟨roll,0,0,false⟩ S):=HO3.out.below hb4
 obtain ⟨a4,c4,hv4⟩:=own_shape ho4
 subst hv4
 go_wp2_with fail
 refine (HNe.out w4 _ _ HO4.out ho4).mono ?_
 rintro e w5 ⟨rfl,hb5⟩
 have HO5 : Hid (OpS Z Y w5 s w.heap.size W1.heap.size d mv (.pointer none) n D ⟨roll,0,0,false⟩ S):=HO4.out.below hb5
 have hs35 : w3.heap.size<=w5.heap.size:=by have:=hb4.size;have:=hb5.size;omega
 have HB5 : Hid (Below w.heap.size w w5/\w.heap.size + 2<=w3.heap.size):=⟨belowN (belowN (belowN HB2.out.1 hb3) hb4) hb5,by have:=hb3.size;have:=HB2.out.2;omega⟩
 have ho5 : w5.ownsRow w3.heap.size 3 1 (.slice a4 k c4) k (cellsI (numsI (List.range' 1 k))):=own_below ho4 hb5
 obtain ⟨a6,c6,hv6,_,_,hA⟩:=own_cells ho5
 injection hv6 with hv7 _ hv8
 subst hv7
 subst hv8
 have HAt : Hid (∀ t,t < k->∃ g,a4 = some ⟨g,0,none⟩/\w3.heap.size<=g/\w5.cell? ⟨g,t,none⟩ = some (.int .i64 ((t + 1 : Nat) : Int))):=fun t ht=>by
  obtain ⟨g,rfl,_,hc⟩:=hA (by omega)
  refine ⟨g,rfl,(ho5.lt g rfl).1,hc t _ ?_⟩
  have : (List.range' 1 k)[t]? = some (1 + t):=by rw [List.getElem?_range' ht];simp
  unfold cellsI numsI
  rw [List.getElem?_map,List.getElem?_map,this]
  show some (Value.int .i64 ((1 + t : Nat) : Int)) = _
  rw [Nat.add_comm 1 t]
 clear HLi HNu HNe HO2 HO3 HO4 ho3 ho4 hb3 hb4 hb5 ho5 hA HB2 HB1 hn hc0 hc1 hr hkf hk hk2 hw5 hs35
 go_upto_region 4 with (fail)
 go_loopw [28] (fun i wr=>∃ (t : Nat) (Y' : Nat->Prop) (mv' mg' : Value) (n' : Nat) (J : Jn),t<=k/\i = .int .i64 t/\n'<=n + (allB B t).length + t/\J.num = t/\J.roll = roll/\Hid ((1<=t->J.size = (fl D.files (F t)).d.size/\(J.cut = true ↔ T t ≠ []))/\J.size<=100000)/\Hid (OpS Z Y' wr s w.heap.size W1.heap.size d mv' mg' n' D J (runS S (allB B t)))/\Hid (∀ q,Y' q->Y q\/w5.heap.size<=q)/\Hid (Tr (fun q=>q = w.heap.size\/q = W1.heap.size\/Y q) w5 wr)) (fun i _=>k - (intOf i).toNat)
 case atStart=>exact ⟨0,Y,mv,.pointer none,n,⟨roll,0,0,false⟩,Nat.zero_le _,rfl,Nat.le_refl _,rfl,rfl,⟨fun h=>absurd h (by omega),Nat.zero_le _⟩,HO5.out,fun q hq=>.inl hq,Tr.refl _ _⟩
 case round =>
  obtain ⟨t,Y',mv',mg',n',J,ht,rfl,hn',hjn,hjr,HSz,HO,HY,HT⟩:=hrel
  by_cases hlt : t < k
  ·have q1 : (t : Int) < (k : Int):=by omega
   have q0 : (0 : Int)<=(t : Int):=by omega
   obtain ⟨g,rfl,hg3,e0⟩:=HAt.out t hlt
   have e1 : wr.cell? ⟨g,t,none⟩ = some (.int .i64 ((t + 1 : Nat) : Int)):=cell_tr HT.out e0 (fun hz=>by
    have:=HB5.out.2
    have hz : g = w.heap.size\/g = W1.heap.size\/Y g:=hz
    have hw1:=HP1.out
    rcases hz with hz | hz | hz
    ·omega
    ·omega
    ·have:=HYl.out g hz;omega)
   have hrd:=HRd.out wr t Y' mv' mg' n' J hlt hn' HO.out hjn hjr
   have HT5 : Hid (∀ q,Y' q->Y q\/w5.heap.size<=q):=HY.out
   have hs5 : w5.heap.size<=wr.heap.size:=HT.out.size
   have HT6 : Hid (Tr (fun q=>q = w.heap.size\/q = W1.heap.size\/Y q) w5 wr):=HT.out
   obtain ⟨u,hu⟩ : ∃ u : Int,((t + 1 : Nat) : Int) = u:=⟨_,rfl⟩
   rw [hu] at e1 hrd
   clear HSz HO HY HT HRd HAt e0 HSy HJJ hu hg3
   have HN0 : Hid (n'<=n + (allB B t).length + t/\J.num = t/\J.roll = roll):=⟨hn',hjn,hjr⟩
   clear hn' hjn hjr ht
   have HL0 : Hid (t < k):=hlt
   clear hlt
   go_wp2_with fail
   refine hrd.mono ?_
   rintro e w6 ⟨rfl,J',j1,j2,j3,j4,⟨Y2,mv2,mg2,n2,hn2,h2,hy2⟩,t2⟩
   have HX : Hid (OpS Z Y2 w6 s w.heap.size W1.heap.size d mv2 mg2 n2 D J' (runS S (allB B (t + 1)))/\(∀ q,Y2 q->Y q\/w5.heap.size<=q)/\Tr (fun q=>q = w.heap.size\/q = W1.heap.size\/Y q) w5 w6/\((1<=t + 1->J'.size = (fl D.files (F (t + 1))).d.size/\(J'.cut = true ↔ T (t + 1) ≠ []))/\J'.size<=100000)):=by
    refine ⟨h2,fun q hq=>?_,HT6.out.trans' t2 (fun q hq hz=>?_),⟨fun _=>⟨j3,j4⟩,by rw [j3];exact HBd.out (t + 1) (by omega) HL0.out⟩⟩
    ·rcases hy2 q hq with h | h
     ·exact HT5.out q h
     ·exact .inr (by omega)
    ·rcases hz with hz | hz | hz
     ·exact .inl hz
     ·exact .inr (.inl hz)
     ·rcases HT5.out q hz with h | h
      ·exact .inr (.inr h)
      ·omega
   have HJ2 : Hid (J'.num = t + 1/\J'.roll = roll/\n2<=n + (allB B (t + 1)).length + (t + 1)):=⟨j1,j2,hn2⟩
   clear h2 hy2 t2 HT5 HT6 hrd j1 j2 j3 j4 hn2 e1
   go_wp2
   go_roundw
   case rel=>exact ⟨t + 1,Y2,mv2,mg2,n2,J',HL0.out,by go_num,HJ2.out.2.2,HJ2.out.1,HJ2.out.2.1,HX.out.2.2.2,HX.out.1,HX.out.2.1,HX.out.2.2.1⟩
   case measure=>have:=HL0.out;simp [intOf];omega
  ·have htk : t = k:=by omega
   subst htk
   have q1 : ¬ (t : Int) < (t : Int):=by omega
   have hops:=HO.out
   rw [HB0.out] at hops
   have hsy:=HSy.out wr Y' mv' mg' n' J hops hjn
   have hJJ:=HJJ.out J hjn HSz.out.1
   have hszz:=HSz.out.2
   have HTz : Hid (Tr (fun q=>Z q\/Y q) w wr):=((below_tr HB5.out.1 _).trans' HT.out (fun q hq hz=>by
    have hw1:=HP1.out
    rcases hz with hz | hz | hz
    ·omega
    ·omega
    ·exact .inr hz))
   have HEnd : Hid (∀ X,OpS (Yn Z wr.heap.size X.heap.size) Y' X s w.heap.size W1.heap.size d mv' mg' n' (jsync D J).2 J (runS S ms)->Tr (Zn Z wr.heap.size) wr X->∀ e,e = .returned (if (jsync D J).1 = true then .tuple #[.pointer (some ⟨w.heap.size,0,none⟩),.bool true] else .tuple #[.pointer none,.bool false])->JOpenE Z Y w X e s d (n + ms.length + t) D ms roll hd (runS S ms)):=fun X h1 t1 e he=>by
    have hsz : w.heap.size<=wr.heap.size:=HTz.out.size
    refine ⟨_,_,_,Y',mv',mg',n',J,he,Nat.le_refl _,by rw [HB0.out] at hn';exact hn',hjr,hszz,hJJ,h1,fun q hq=>hq.imp (fun h=>h) (fun h=>by omega),fun q hq=>?_,HTz.out.trans' t1 (fun q hq hz=>?_)⟩
    ·rcases HY.out q hq with h | h
     ·exact .inl h
     ·have:=HB5.out.1.size;exact .inr (by omega)
    ·rcases hz with hz | hz
     ·exact .inl hz
     ·omega
   obtain ⟨b,hb⟩ : ∃ b,(jsync D J).1 = b:=⟨_,rfl⟩
   rw [hb] at hsy HEnd
   clear HO HY HT HSz HRd HAt HSy HJJ hops hJJ hb hn' hszz
   go_wp2_with fail
   refine hsy.mono ?_
   rintro e w6 ⟨rfl,h6,t6⟩
   have HF:=HEnd.out w6 h6 t6
   cases b
   ·have HG : Hid (JOpenE Z Y w w6 (.returned (.tuple #[.pointer none,.bool false])) s d (n + ms.length + t) D ms roll hd (runS S ms)):=HF _ rfl
    clear HF HEnd h6 t6 hsy
    go_wp2
    go_ret2
    exact HG.out
   ·have HG : Hid (JOpenE Z Y w w6 (.returned (.tuple #[.pointer (some ⟨w.heap.size,0,none⟩),.bool true])) s d (n + ms.length + t) D ms roll hd (runS S ms)):=HF _ rfl
    clear HF HEnd h6 t6 hsy
    go_wp2
    go_ret2
    exact HG.out
end Go.Proofs.YtilkdeghknjjhaaGreatDoor
namespace Go.Proofs.YtilkdeghknjjhaaGreatDoor
open Go.RowKit M Go.Maps
def OpenE (Z : Nat->Prop) (w w' : World) (e : Ending) (d n : Nat) (D : Dk) (nd ev : Int) (roll : Nat) (ms : List Mt) (hd : Nat) : Prop :=
 (∃ s j Z' Y' mv n' D' J S',e = .returned (.tuple #[.pointer (some ⟨s,0,none⟩),.int .i64 0])/\Sto Z' Y' w' s j d mv n' D' J S'/\SI nd D' J S' ms ms.length/\n'<=n/\S'.every = ev/\J.roll = roll/\D'.failed = D.failed/\D'.cap = D.cap/\(∀ k,D.Bud (k + 2)->D'.Bud k) /\
  (∀ k,Z' k->Z k\/w.heap.size<=k)/\(∀ k,Y' k->w.heap.size<=k)/\w.heap.size<=j/\Tr Z w w'/\∃ J0,D' = (jsync D J0).2) \/
 (∃ D' Z',e = .returned (.tuple #[.pointer none,.int .i64 7])/\DiskAt Z' w' d D'/\DI nd D' ms hd/\D.failed < D'.failed/\D'.cap = D.cap/\(∀ k,D.Bud (k + 2)->D'.Bud k)/\(∀ k,Z' k->Z k\/w.heap.size<=k)/\(∀ k,Z' k->k < w'.heap.size)/\Vars w'/\Tr Z w w'/\∃ J0,D' = (jsync D J0).2)
def stNew (nd ev ro : Int) : St:=⟨nd,ev,ro,zM,0,0,false⟩
theorem OpS.sto {Z Y : Nat->Prop} {w : World} {s j p d : Nat} {mv mg : Value} {n : Nat} {D : Dk} {J : Jn} {S : St} (h : OpS Z Y w s j p d mv mg n D J S) :
  Sto Z Y ((w.setCell ⟨s,4,none⟩ (.pointer (some ⟨j,0,none⟩))).setCell ⟨s,7,none⟩ (.int .i64 S.cnt)) s j d mv n D J { S with held:=S.cnt }:=by
 have a1:=h.st.setS (S':=S) (dv':=.pointer (some ⟨d,0,none⟩)) (jv':=.pointer (some ⟨j,0,none⟩)) 4 (.pointer (some ⟨j,0,none⟩)) rfl rfl
 have a2:=a1.setS (S':={ S with held:=S.cnt }) (dv':=.pointer (some ⟨d,0,none⟩)) (jv':=.pointer (some ⟨j,0,none⟩)) 7 (.int .i64 S.cnt) rfl rfl
 have t : Tr (One s) w ((w.setCell ⟨s,4,none⟩ (.pointer (some ⟨j,0,none⟩))).setCell ⟨s,7,none⟩ (.int .i64 S.cnt)):=((Tr.refl _ w).set1 4 _).set1 7 _
 have hz : ¬ Z s:=fun hh=>h.dj s hh h.st.ys
 refine ⟨⟨h.side.dk.tr t (fun k hk (e : k = s)=>hz (e ▸ hk)),h.side.jn.tr t (fun (e : j = s)=>h.yj (e ▸ h.st.ys)),h.side.vs.tr t (fun k hk (e : k = s)=>(h.v5 k hk).2 (e ▸ h.st.ys))⟩,a2,h.zj,h.yj,h.dj,fun k hk=>?_,h.v5,h.j5⟩
 simp [World.setCell];exact h.lz k hk
theorem open_live (Z : Nat->Prop) (d n : Nat) (D : Dk) (nd ev : Int) (roll : Nat) (ms : List Mt) (k sz : Nat) (cut sy : Bool) (hd : Nat) (w : World) (h : DiskAt Z w d D) (hvs : Vars w) (hlz : ∀ k,Z k->k < w.heap.size) (hv5 : ∀ k,k < 5->¬ Z k) (hwf : D.WF) (hbu : D.Bud 2) (hl : D.life ≠ 0) (hJ : JD D ms k sz cut sy hd) (hhd : hd<=ms.length) (hg : GoodM nd zM 0 ms) (ho : optOK nd ev roll = true) (hkf : D.files.length<=100000000)
  (hn : ms.length + k<=n) (hn2 : n < 10000000000) :
  Calls Tryz.prog 48 #[.pointer (some ⟨d,0,none⟩),.agg #[.int .i64 nd,.int .i64 ev,.int .i64 roll]] w fun e w'=>OpenE Z w w' e d n D nd ev roll ms hd:=by
 have hw5:=hvs.five
 have hro : roll<=100000:=by unfold optOK at ho;simp at ho;omega
 obtain ⟨W1,hW1,HB1,Hrow,HB1s⟩ : ∃ W1,w.alloc (.cells #[.int .i64 nd,.int .i64 ev,.int .i64 roll] 23) = W1/\Hid (Below w.heap.size w W1)/\Hid (W1.heap[w.heap.size]? = some (.cells #[.int .i64 nd,.int .i64 ev,.int .i64 roll] 23 (0,0)))/\Hid (W1.heap.size = w.heap.size + 1) :=
  ⟨_,rfl,(Below.refl _ _).alloc (Nat.le_refl _) _,heap_alloc_new w _,by show _ = _;simp⟩
 have HAr : Hid (∀ X,Calls Tryz.prog 84 #[.agg #[.int .i64 nd,.int .i64 ev,.int .i64 roll]] X fun e w'=>e = .returned (.bool true)/\Below X.heap.size X w'):=fun X=>by
  have:=areOptions_any nd ev roll X
  rw [ho] at this;exact this
 have HX : Hid (∀ X,Below W1.heap.size W1 X->X.cell? ⟨w.heap.size,0,none⟩ = some (.int .i64 nd)/\X.cell? ⟨w.heap.size,1,none⟩ = some (.int .i64 ev)/\X.cell? ⟨w.heap.size,2,none⟩ = some (.int .i64 roll)):=fun X hX=>by
  have hr:=heap_later hX Hrow.out
  exact ⟨by rw [cell_of_row _ _ _ _ _ _ hr];rfl,by rw [cell_of_row _ _ _ _ _ _ hr];rfl,by rw [cell_of_row _ _ _ _ _ _ hr];rfl⟩
 have HOp : Hid (∀ X,Below w.heap.size w X->Calls Tryz.prog 85 #[.pointer (some ⟨d,0,none⟩),.int .i64 roll,.func (.func 86) #[.pointer (some ⟨X.heap.size,0,none⟩)] #[],.func (.func 87) #[.pointer (some ⟨X.heap.size,0,none⟩)] #[]] (X.alloc (.cells #[.pointer (some ⟨d,0,none⟩),.int .i64 nd,.int .i64 ev,.int .i64 roll,.pointer none,.map none,.int .i64 0,.int .i64 0,.bool false] 86)) fun e w' =>
   JOpenE Z (One X.heap.size) (X.alloc (.cells #[.pointer (some ⟨d,0,none⟩),.int .i64 nd,.int .i64 ev,.int .i64 roll,.pointer none,.map none,.int .i64 0,.int .i64 0,.bool false] 86)) w' e X.heap.size d (0 + ms.length + k) D ms roll hd (runS (stNew nd ev roll) ms)):=fun X hX=>by
  have hb:=belowA (o:=.cells #[.pointer (some ⟨d,0,none⟩),.int .i64 nd,.int .i64 ev,.int .i64 roll,.pointer none,.map none,.int .i64 0,.int .i64 0,.bool false] 86) hX
  have hsz : (X.alloc (.cells #[.pointer (some ⟨d,0,none⟩),.int .i64 nd,.int .i64 ev,.int .i64 roll,.pointer none,.map none,.int .i64 0,.int .i64 0,.bool false] 86)).heap.size = X.heap.size + 1:=by simp
  have hXs:=hX.size
  refine jOpen_live Z (One X.heap.size) X.heap.size d (.map none) 0 D (stNew nd ev roll) roll nd ms k sz cut sy hd _ ⟨h.below hb,⟨fun q (e : q = X.heap.size)=>by omega,rfl,fun q hq=>by simp [mapBlock] at hq,heap_alloc_new X _,⟨fun _=>none,.inl ⟨rfl,fun _=>rfl⟩,fun q=>⟨fun _=>rfl,fun v hv=>by cases hv⟩⟩⟩,hvs.below hb,fun q hz (e : q = X.heap.size)=>?_,fun q hq=>?_,fun q hq=>⟨hv5 q hq,fun (e : q = X.heap.size)=>?_⟩⟩ hwf hbu hl hJ hg hro hkf (by omega) (by show (0 : Int)<=0;omega) (by show (0 : Int) + _<=_;omega)
  ·have:=hlz q hz;omega
  ·have:=hlz q hq;omega
  ·omega
 have HRun : Hid (runS (stNew nd ev roll) ms = { stNew nd ev roll with M:=runMt zM ms,cnt:=0 + ms.length }):=(good_ok ms (stNew nd ev roll) hg).2
 have HRe : Hid (∀ X w' e,Below w.heap.size w X->JOpenE Z (One X.heap.size) (X.alloc (.cells #[.pointer (some ⟨d,0,none⟩),.int .i64 nd,.int .i64 ev,.int .i64 roll,.pointer none,.map none,.int .i64 0,.int .i64 0,.bool false] 86)) w' e X.heap.size d (0 + ms.length + k) D ms roll hd (runS (stNew nd ev roll) ms) ->
   (∃ j,e = .returned (.tuple #[.pointer (some ⟨j,0,none⟩),.bool true])/\w'.cell? ⟨X.heap.size,4,none⟩ = some (.pointer none)/\w'.cell? ⟨X.heap.size,6,none⟩ = some (.int .i64 ms.length)/\w'.cell? ⟨X.heap.size,7,none⟩ = some (.int .i64 0)/\(∀ o,w'.frozen? ⟨X.heap.size,o,none⟩ = false)/\OpenE Z w ((w'.setCell ⟨X.heap.size,4,none⟩ (.pointer (some ⟨j,0,none⟩))).setCell ⟨X.heap.size,7,none⟩ (.int .i64 ms.length)) (.returned (.tuple #[.pointer (some ⟨X.heap.size,0,none⟩),.int .i64 0])) d n D nd ev roll ms hd) \/
   (e = .returned (.tuple #[.pointer none,.bool false])/\OpenE Z w w' (.returned (.tuple #[.pointer none,.int .i64 7])) d n D nd ev roll ms hd)):=fun X w' e hX hE=>by
  obtain ⟨j,p,Z',Y',mv',mg',n',J,he,hjw,hn',hjr,hjz,hjd,hops,hz,hy,t⟩:=hE
  have hXs:=hX.size
  have hb:=belowA (o:=.cells #[.pointer (some ⟨d,0,none⟩),.int .i64 nd,.int .i64 ev,.int .i64 roll,.pointer none,.map none,.int .i64 0,.int .i64 0,.bool false] 86) hX
  have hsz : (X.alloc (.cells #[.pointer (some ⟨d,0,none⟩),.int .i64 nd,.int .i64 ev,.int .i64 roll,.pointer none,.map none,.int .i64 0,.int .i64 0,.bool false] 86)).heap.size = X.heap.size + 1:=by simp
  rw [hsz] at hjw hz hy
  rw [HRun.out] at hops
  obtain ⟨s1,s2,s3,s4⟩:=jsync_jd hjd hwf
  have hwf':=jsync_wf hwf 0 hbu J
  have T0 : Tr Z w w':=(below_tr hb Z).trans' t (fun q hq hh=>hh.elim (fun h=>h) (fun (e : q = X.heap.size)=>by omega))
  have hz' : ∀ q,Z' q->Z q\/w.heap.size<=q:=fun q hq=>(hz q hq).imp (fun h=>h) (fun h=>by omega)
  have hy' : ∀ q,Y' q->w.heap.size<=q:=fun q hq=>(hy q hq).elim (fun (e : q = X.heap.size)=>by omega) (fun h=>by omega)
  cases hbb : (jsync D J).1
  ·obtain ⟨s5,s6⟩:=s2 hbb
   rw [hbb] at he
   exact .inr ⟨he,.inr ⟨(jsync D J).2,Z',rfl,hops.side.dk,⟨hwf',hg,_,_,_,s5⟩,s6,s3,fun q hq=>jsync_bud hq J,hz',hops.lz,hops.side.vs,T0,J,rfl⟩⟩
  ·obtain ⟨s5,s6⟩:=s1 hbb
   rw [hbb] at he
   have hsto:=hops.sto
   have hc : ((0 : Int) + (ms.length : Int)) = ms.length:=by omega
   simp only [hc] at hsto
   refine .inl ⟨j,he,(hops.st.cell 4).trans rfl,?_,(hops.st.cell 7).trans rfl,hops.st.frozen,.inl ⟨X.heap.size,j,Z',Y',mv',n',(jsync D J).2,J,_,rfl,hsto,⟨hwf',hg,s5.less,rfl,rfl,rfl,by rw [hjr];exact hro,rfl,Nat.le_refl _,rfl,hjz⟩,by omega,rfl,hjr,s6,s3,fun q hq=>jsync_bud hq J,hz',hy',by omega,?_,J,rfl⟩⟩
   ·have:=(hops.st.cell 6)
    rw [this]
    show some (Value.int .i64 (0 + (ms.length : Int))) = _
    rw [hc]
   ·exact T0.trans' (((Tr.refl (One X.heap.size) w').set1 4 _).set1 7 _) (fun q hq (e : q = X.heap.size)=>by omega)
 clear h hvs hlz hv5 hwf hbu hl hJ hhd hg ho hkf hn hn2 HRun hw5 hro
 go_enter Tryz.func48,Tryz.ntmps48
 go_upto_region 1 with (fail)
 clear hW1
 obtain ⟨x0,x1,x2⟩:=HX.out W1 (Below.refl _ _)
 go_wp2_with fail
 refine (HAr.out W1).mono ?_
 rintro e w2 ⟨rfl,hb2⟩
 obtain ⟨y0,y1,y2⟩:=HX.out w2 hb2
 have hb02:=belowN HB1.out hb2
 have HO:=HOp.out w2 hb02
 obtain ⟨W4,hW4,HB4,HX4⟩ : ∃ W4,w2.alloc (.cells #[.pointer (some ⟨d,0,none⟩),.int .i64 nd,.int .i64 ev,.int .i64 roll,.pointer none,.map none,.int .i64 0,.int .i64 0,.bool false] 86) = W4/\Hid (Below W1.heap.size W1 W4)/\Hid (Below w.heap.size w w2):=⟨_,rfl,belowA hb2,hb02⟩
 have HRx : Hid (∀ w' e,JOpenE Z (One w2.heap.size) W4 w' e w2.heap.size d (0 + ms.length + k) D ms roll hd (runS (stNew nd ev roll) ms)->_):=fun w' e hh=>HRe.out w2 w' e hb02 (by rw [hW4];exact hh)
 rw [hW4] at HO
 clear HOp HRe hb2 hb02 HAr x0 x1 x2
 go_upto_region 4 with (fail)
 clear hW4
 obtain ⟨z0,z1,z2⟩:=HX.out W4 HB4.out
 clear y0 y1 y2
 go_wp2_with fail
 refine HO.mono ?_
 intro e w5 hE
 rcases HRx.out w5 e hE with ⟨j,rfl,c4,c6,c7,fz,hF⟩ | ⟨rfl,hF⟩
 ·have HF : Hid (OpenE Z w ((w5.setCell ⟨w2.heap.size,4,none⟩ (.pointer (some ⟨j,0,none⟩))).setCell ⟨w2.heap.size,7,none⟩ (.int .i64 ms.length)) (.returned (.tuple #[.pointer (some ⟨w2.heap.size,0,none⟩),.int .i64 0])) d n D nd ev roll ms hd):=hF
  clear hF hE HRx HO
  go_wp2
  go_ret2
  exact HF.out
 ·have HF : Hid (OpenE Z w w5 (.returned (.tuple #[.pointer none,.int .i64 7])) d n D nd ev roll ms hd):=hF
  clear hF hE HRx HO
  go_wp2
  go_ret2
  exact HF.out
end Go.Proofs.YtilkdeghknjjhaaGreatDoor
