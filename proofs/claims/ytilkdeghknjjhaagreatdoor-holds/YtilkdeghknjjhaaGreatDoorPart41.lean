/- A part of the proof. -/
import Derived.Test.YtilkdeghknjjhaaGreatDoorPart37
import Derived.Test.YtilkdeghknjjhaaGreatDoorPart40
set_option maxRecDepth 20000
set_option maxHeartbeats 3200000
set_option linter.unusedVariables false
namespace Go.Proofs.YtilkdeghknjjhaaGreatDoor
open Go.RowKit M
variable {D : Dk} {ms : List Mt} {k sz hd : Nat} {cut sy : Bool}
def szs (fs : List Fl) (l : List Nm) : Int:=(l.map fun x=>((fl fs x.f).d.size : Int)).sum
theorem bytesTo_sum (D : Dk) : ∀ k,k<=D.now.length->D.bytesTo k = szs D.files (D.now.take k)
 | 0,_=>rfl
 | k + 1,h=>by
  show D.bytesTo k + ((fl D.files (nm D.now k).f).d.size : Int) = _
  rw [bytesTo_sum D k (by omega),List.take_succ_eq_append_getElem (by omega),nm_get _ _ (by omega)]
  unfold szs
  rw [List.map_append,List.sum_append]
  simp
theorem bytes_sum (D : Dk) : D.bytes = szs D.files D.now:=by
 unfold Dk.bytes;rw [bytesTo_sum D _ (Nat.le_refl _),List.take_length]
theorem szs_congr {fs gs : List Fl} {l : List Nm} (h : ∀ x ∈ l,(fl gs x.f).d.size = (fl fs x.f).d.size) : szs gs l = szs fs l:=by
 unfold szs
 congr 1
 exact List.map_congr_left fun x hx=>by rw [h x hx]
theorem szs_ins (fs : List Fl) (l : List Nm) (x : Nm) : szs fs (insN l x) = szs fs l + ((fl fs x.f).d.size : Int):=by
 have e : szs fs l = szs fs (l.take (fd l x.n)) + szs fs (l.drop (fd l x.n)):=by
  unfold szs
  rw [<- List.sum_append,<- List.map_append,List.take_append_drop]
 rw [e]
 unfold insN szs
 rw [List.map_append,List.sum_append,List.map_cons,List.sum_cons]
 omega
theorem may_failed (h : D.may = true) : D.chg.failed = D.failed:=by unfold Dk.chg;rw [if_pos h]
theorem not_may_failed (h : D.may = false) : D.chg.failed = D.failed + 1:=by unfold Dk.chg;rw [if_neg (by rw [h];simp)]
structure JD (D : Dk) (ms : List Mt) (k sz : Nat) (cut sy : Bool) (hd : Nat) : Prop where
 ex : ∃ a F B T,Files D k a F B T/\allB B k = ms/\Sure D a F B hd/\(1<=k->sz = (fl D.files (F k)).d.size/\(cut = true ↔ T k ≠ []))/\(sy = true->1<=k->(fl D.files (F k)).s = (fl D.files (F k)).d.size)
theorem JD.less (h : JD D ms k sz cut sy hd) : JD D ms k sz cut false hd:=by
 obtain ⟨a,F,B,T,h1,h2,h3,h4,h5⟩:=h
 exact ⟨a,F,B,T,h1,h2,h3,h4,fun hh=>by cases hh⟩
theorem JD.of {E : Dk} (h : JD D ms k sz cut sy hd) (h1 : E.files = D.files) (h2 : E.now = D.now) (h3 : E.safe = D.safe) (h4 : E.steps = D.steps) : JD E ms k sz cut sy hd:=by
 obtain ⟨a,F,B,T,g1,g2,g3,g4,g5⟩:=h
 exact ⟨a,F,B,T,g1.of h1 h2 h3 h4,g2,g3.of h1,by rw [h1];exact g4,by rw [h1];exact g5⟩
theorem JD.chg (h : JD D ms k sz cut sy hd) : JD D.chg ms k sz cut sy hd:=h.of D.chg_files D.chg_now D.chg_safe D.chg_steps
theorem Sure.full {F : Nat->Nat} {B : Nat->List Mt} {T : Nat->Bs} (h : Files D k k F B T) (hs : 1<=k->(fl D.files (F k)).s = (fl D.files (F k)).d.size) : Sure D k F B (allB B k).length:=by
 by_cases h0 : k = 0
 ·subst h0;exact ⟨0,by show (allB B 0).length<=(allB B 0).length + 0;omega,fun _=>rfl,fun h=>by omega⟩
 ·have hk : 1<=k:=by omega
  refine ⟨(B k).length,?_,fun h=>absurd h h0,fun _=>⟨Nat.le_refl _,?_⟩⟩
  ·cases k with
   | zero=>exact absurd rfl h0
   | succ k=>show (allB B k ++ B (k + 1)).length<=_;rw [List.length_append];exact Nat.le_refl _
  ·rw [List.take_length,hs hk]
   have:=h.dat k hk (Nat.le_refl _)
   have h2 : (fl D.files (F k)).d.size = (bs (fl D.files (F k)).d).length:=by unfold bs;simp
   rw [h2,this,List.length_append];omega
theorem JD.sync (h : JD D ms k sz cut sy hd) (hw : D.WF) (hk : 1<=k) :
  JD (D.sync (fnm k)) ms k sz cut (D.syncs (fnm k)) hd/\(D.syncs (fnm k) = false->D.failed < (D.sync (fnm k)).failed)/\(D.syncs (fnm k) = true->(D.sync (fnm k)).failed = D.failed)/\(D.sync (fnm k)).cap = D.cap/\(D.sync (fnm k)).bytes = D.bytes:=by
 obtain ⟨a,F,B,T,g1,g2,g3,g4,g5⟩:=h
 obtain ⟨e1,e2,e3⟩:=g1.sync hk
 obtain ⟨ht,hat⟩:=g1.at_ hk (Nat.le_refl _)
 have hsz : ∀ j,(fl (D.sync (fnm k)).files j).d = (fl D.files j).d:=fun j=>by
  unfold Dk.sync
  split
  ·show (fl (D.files.set _ _) j).d = _
   rw [fl_set (by rw [hat];exact g1.lt k hk (Nat.le_refl _))]
   split
   ·rename_i hj;rw [hj]
   ·rfl
  ·show (fl D.chg.files j).d = _
   rw [D.chg_files]
 refine ⟨⟨a,F,B,T,e1,g2,e3 _ g3,fun hk=>by rw [hsz];exact g4 hk,fun hs _=>e2 hs⟩,fun hs=>?_,fun hs=>?_,?_,?_⟩
 ·have hm : D.may = false:=by
   unfold Dk.syncs at hs;rw [ht] at hs;simpa using hs
  unfold Dk.sync
  rw [if_neg (by rw [hs];simp),not_may_failed hm];omega
 ·have hm : D.may = true:=by
   unfold Dk.syncs at hs;rw [ht] at hs;simpa using hs
  unfold Dk.sync
  rw [if_pos hs]
  exact may_failed hm
 ·unfold Dk.sync;split <;> exact D.chg_cap
 ·rw [bytes_sum,bytes_sum]
  have e4 : (D.sync (fnm k)).now = D.now:=by unfold Dk.sync;split <;> exact D.chg_now
  rw [e4]
  exact szs_congr fun x _=>by rw [hsz]
theorem JD.syncDir (h : JD D ms k sz cut true hd) (hm : D.may = true) : JD D.syncDir ms k sz cut true ms.length:=by
 obtain ⟨a,F,B,T,g1,g2,g3,g4,g5⟩:=h
 have e1:=g1.syncDir hm
 have ef : D.syncDir.files = D.files:=by unfold Dk.syncDir;rw [if_pos hm];exact D.chg_files
 refine ⟨k,F,B,T,e1,g2,?_,by rw [ef];exact g4,by rw [ef];exact g5⟩
 rw [<- g2]
 exact Sure.full e1 (by rw [ef];exact g5 rfl)
theorem syncDir_cap (D : Dk) : D.syncDir.cap = D.cap/\D.syncDir.bytes = D.bytes/\(D.may = true->D.syncDir.failed = D.failed)/\(D.may = false->D.failed < D.syncDir.failed):=by
 unfold Dk.syncDir
 cases hm : D.may
 ·rw [if_neg (by simp)]
  exact ⟨D.chg_cap,D.chg_bytes,fun h=>(by cases h),fun _=>(by rw [not_may_failed hm];omega)⟩
 ·rw [if_pos rfl]
  refine ⟨D.chg_cap,?_,fun _=>may_failed hm,fun h=>(by cases h)⟩
  rw [bytes_sum,bytes_sum]
  show szs D.chg.files D.chg.now = _
  rw [D.chg_files,D.chg_now]
theorem JD.not_there (h : JD D ms k sz cut sy hd) (hk : k < 1000000000) : there D.now (fnm (k + 1)) = false/\((fnm (k + 1)).toList == []) = false:=by
 obtain ⟨a,F,B,T,g1,_⟩:=h
 refine ⟨?_,?_⟩
 ·cases ht : there D.now (fnm (k + 1))
  ·rfl
  ·obtain ⟨x,hx,he⟩:=(there_iff g1.srt _).1 ht
   obtain ⟨i,i1,i2,rfl⟩:=(g1.now x).1 hx
   have:=fnm_inj (by omega) (by omega) he
   omega
 ·cases ht : ((fnm (k + 1)).toList == ([] : List UInt8))
  ·rfl
  ·exact absurd ((nil_iff _).1 ht) (fnm_ne _)
theorem JD.create (h : JD D ms k sz cut sy hd) (hw : D.WF) (hk : k < 1000000000) (hs : sy = true\/k = 0) :
  (D.creates (fnm (k + 1)) = true->JD (D.create (fnm (k + 1))) ms (k + 1) 0 false false hd/\(D.create (fnm (k + 1))).failed = D.failed)/\(D.creates (fnm (k + 1)) = false->JD (D.create (fnm (k + 1))) ms k sz cut sy hd/\D.failed < (D.create (fnm (k + 1))).failed)/\(D.create (fnm (k + 1))).cap = D.cap/\(D.create (fnm (k + 1))).bytes = D.bytes:=by
 obtain ⟨n1,n2⟩:=h.not_there hk
 have hcm : D.creates (fnm (k + 1)) = D.may:=by unfold Dk.creates;rw [n1,n2];simp
 have h0:=h
 obtain ⟨a,F,B,T,g1,g2,g3,g4,g5⟩:=h
 refine ⟨fun hc=>?_,fun hc=>?_,?_,?_⟩
 ·obtain ⟨e1,e2,e3⟩:=g1.create hw hk (fun h1=>by
   rcases hs with hs | hs
   ·exact g5 hs h1
   ·omega) hc
  refine ⟨⟨a,_,_,_,e1,?_,e3 _ g3,fun _=>⟨?_,?_⟩,fun hh=>by cases hh⟩,?_⟩
  ·show allB (fun j=>if j = k + 1 then [] else B j) k ++ (if k + 1 = k + 1 then [] else B (k + 1)) = ms
   rw [if_pos rfl,List.append_nil,allB_congr (C:=B) k (fun i _ hi=>if_neg (by omega)),g2]
  ·show 0 = (fl _ (if k + 1 = k + 1 then _ else _)).d.size
   rw [if_pos rfl];exact e2.symm
  ·show (false = true) ↔ (if k + 1 = k + 1 then [] else T (k + 1)) ≠ []
   rw [if_pos rfl];simp
  ·unfold Dk.create;rw [if_pos hc]
   exact may_failed (hcm ▸ hc)
 ·have e : D.create (fnm (k + 1)) = D.chg:=by unfold Dk.create;rw [if_neg (by rw [hc];simp)]
  rw [e]
  exact ⟨h0.chg,by rw [not_may_failed (hcm ▸ hc)];omega⟩
 ·unfold Dk.create;split <;> exact D.chg_cap
 ·unfold Dk.create
  split
  ·rename_i hc
   obtain ⟨e1,_,_⟩:=Dk.create_now hw hc
   rw [bytes_sum,bytes_sum]
   show szs (D.files ++ [Fl.z]) (doS D.now (D.step1 (fnm (k + 1)))) = _
   rw [e1,szs_ins]
   have fz : fl (D.files ++ [Fl.z]) D.files.length = Fl.z:=by unfold fl;rw [List.getD_eq_getElem?_getD];simp
   show szs _ D.now + ((fl (D.files ++ [Fl.z]) D.files.length).d.size : Int) = _
   rw [fz]
   have : ((Fl.z.d.size : Nat) : Int) = 0:=rfl
   rw [this,Int.add_zero]
   exact szs_congr fun x hx=>by
    have:=hw.ok.now x hx
    unfold fl;rw [List.getD_eq_getElem?_getD,List.getD_eq_getElem?_getD,List.getElem?_append_left this]
  ·exact D.chg_bytes
theorem JD.append (h : JD D ms k sz false sy hd) (hw : D.WF) (hk : 1<=k) (t : ByteArray) (m : Mt) (ht : bs t = encB m) (hm : m.OK) (hb : sz + t.size<=100000) (hr : (t.size : Int)<=D.cap - D.bytes) :
  (D.appends (fnm k) t = true->JD (D.append (fnm k) t) (ms ++ [m]) k (sz + t.size) false false hd/\(D.append (fnm k) t).failed = D.failed)/\(D.appends (fnm k) t = false->JD (D.append (fnm k) t) ms k sz false sy hd/\D.failed < (D.append (fnm k) t).failed)/\(D.append (fnm k) t).cap = D.cap:=by
 have h0:=h
 obtain ⟨a,F,B,T,g1,g2,g3,g4,g5⟩:=h
 obtain ⟨g6,g7⟩:=g4 hk
 have hT : T k = []:=by
  by_cases hT : T k = []
  ·exact hT
  ·exact absurd (g7.2 hT) (by simp)
 have ham : D.appends (fnm k) t = D.may:=by
  unfold Dk.appends;rw [(g1.at_ hk (Nat.le_refl _)).1];simp [hr]
 refine ⟨fun hc=>?_,fun hc=>?_,?_⟩
 ·obtain ⟨e1,e2,e3⟩:=g1.append hk hT t m ht hm (by omega) hc
  refine ⟨⟨a,F,_,T,e1,?_,e3 _ g3,fun _=>⟨by rw [e2];omega,by rw [hT];simp⟩,fun hh=>by cases hh⟩,?_⟩
  ·cases k with
   | zero=>omega
   | succ k =>
    show allB (fun j=>if j = k + 1 then B (k + 1) ++ [m] else B j) k ++ (if k + 1 = k + 1 then B (k + 1) ++ [m] else B (k + 1)) = _
    rw [if_pos rfl,allB_congr (C:=B) k (fun i _ hi=>if_neg (by omega)),<- g2]
    show _ = (allB B k ++ B (k + 1)) ++ [m]
    rw [List.append_assoc]
  ·unfold Dk.append;rw [if_pos hc];exact may_failed (ham ▸ hc)
 ·have e : D.append (fnm k) t = D.chg:=by unfold Dk.append;rw [if_neg (by rw [hc];simp)]
  rw [e]
  exact ⟨h0.chg,by rw [not_may_failed (ham ▸ hc)];omega⟩
 ·unfold Dk.append;split <;> exact D.chg_cap
theorem JD.sizeOf (h : JD D ms k sz cut sy hd) (hk : 1<=k) : D.sizeOf (fnm k) = sz:=by
 obtain ⟨a,F,B,T,g1,g2,g3,g4,g5⟩:=h
 rw [g1.sizeOf hk (Nat.le_refl _),(g4 hk).1]
theorem JD.sz_le (h : JD D ms k sz cut sy hd) (hk : 1<=k) : sz<=100000:=by
 obtain ⟨a,F,B,T,g1,g2,g3,g4,g5⟩:=h
 rw [(g4 hk).1];exact g1.bnd k hk (Nat.le_refl _)
theorem JD.crash (h : JD D ms k sz cut sy hd) (hk : k<=1000000000) (keep : List Int) :
  ∃ ms' k' sz' cut',JD (D.crash keep) ms' k' sz' cut' true ms'.length/\ms' <+: ms/\hd<=ms'.length/\k'<=k:=by
 obtain ⟨a,F,B,T,g1,g2,g3,g4,g5⟩:=h
 obtain ⟨k',B',T',e1,e2,e3,e4,e5⟩:=g1.crash hk g3 keep
 refine ⟨allB B' k',k',(fl (D.crash keep).files (F k')).d.size,open Classical in decide (T' k' ≠ []),⟨k',F,B',T',e1,rfl,Sure.full e1 e4,fun _=>⟨rfl,by simp⟩,fun _=>e4⟩,g2 ▸ e2,e3,e5⟩
end Go.Proofs.YtilkdeghknjjhaaGreatDoor
namespace Go.Proofs.YtilkdeghknjjhaaGreatDoor
open Go.RowKit M
variable {D : Dk} {ms : List Mt} {sy : Bool} {hd : Nat}
abbrev JDJ (D : Dk) (ms : List Mt) (J : Jn) (sy : Bool) (hd : Nat) : Prop:=JD D ms J.num J.size J.cut sy hd
theorem jsl_jd {J : Jn} (h : JDJ D ms J sy hd) (hw : D.WF) :
  ((jsl D J).1 = true->JDJ (jsl D J).2 ms J true hd/\(jsl D J).2.failed = D.failed)/\((jsl D J).1 = false->JDJ (jsl D J).2 ms J false hd/\D.failed < (jsl D J).2.failed)/\(jsl D J).2.cap = D.cap/\(jsl D J).2.bytes = D.bytes:=by
 unfold jsl
 by_cases h0 : J.num = 0
 ·rw [if_pos h0]
  refine ⟨fun _=>⟨?_,rfl⟩,fun hh=>(by cases hh),rfl,rfl⟩
  obtain ⟨a,F,B,T,g1,g2,g3,g4,g5⟩:=h
  exact ⟨a,F,B,T,g1,g2,g3,g4,fun _ hk=>by omega⟩
 ·rw [if_neg h0]
  obtain ⟨e1,e2,e3,e4,e5⟩:=h.sync hw (by omega)
  refine ⟨fun hs=>?_,fun hs=>?_,e4,e5⟩
  ·have hs' : D.syncs (fnm J.num) = true:=hs
   rw [hs'] at e1
   exact ⟨e1,e3 hs'⟩
  ·have hs' : D.syncs (fnm J.num) = false:=hs
   rw [hs'] at e1
   exact ⟨e1,e2 hs'⟩
theorem jsync_jd {J : Jn} (h : JDJ D ms J sy hd) (hw : D.WF) :
  ((jsync D J).1 = true->JDJ (jsync D J).2 ms J true ms.length/\(jsync D J).2.failed = D.failed)/\((jsync D J).1 = false->JDJ (jsync D J).2 ms J false hd/\D.failed < (jsync D J).2.failed)/\(jsync D J).2.cap = D.cap/\(jsync D J).2.bytes = D.bytes:=by
 obtain ⟨e1,e2,e3,e4⟩:=jsl_jd h hw
 unfold jsync
 cases hs : (jsl D J).1
 ·rw [if_neg (by simp)]
  obtain ⟨e5,e6⟩:=e2 hs
  exact ⟨fun hh=>(by cases hh),fun _=>⟨e5,e6⟩,e3,e4⟩
 ·rw [if_pos rfl]
  obtain ⟨e5,e6⟩:=e1 hs
  obtain ⟨s1,s2,s3,s4⟩:=syncDir_cap (jsl D J).2
  refine ⟨fun hm=>⟨e5.syncDir hm,by have:=s3 hm;show (jsl D J).2.syncDir.failed = _;omega⟩,fun hm=>⟨?_,by have:=s4 hm;show _ < (jsl D J).2.syncDir.failed;omega⟩,s1.trans e3,s2.trans e4⟩
  have hm' : (jsl D J).2.may = false:=hm
  have : (jsl D J).2.syncDir = (jsl D J).2.chg:=by unfold Dk.syncDir;rw [if_neg (by rw [hm'];simp)]
  show JDJ (jsl D J).2.syncDir ms J false hd
  rw [this]
  exact e5.chg.less
theorem jbegin_jd {J : Jn} (h : JDJ D ms J sy hd) (hw : D.WF) (hb : D.Bud 2) (hk : J.num < 1000000000) :
  ((jbegin D J).1 = true->JDJ (jbegin D J).2.1 ms (jbegin D J).2.2 false hd/\(jbegin D J).2.1.failed = D.failed/\(jbegin D J).2.2 = ⟨J.roll,J.num + 1,0,false⟩)/\((jbegin D J).1 = false->JDJ (jbegin D J).2.1 ms J false hd/\D.failed < (jbegin D J).2.1.failed/\(jbegin D J).2.2 = J)/\(jbegin D J).2.1.cap = D.cap/\(jbegin D J).2.1.bytes = D.bytes:=by
 obtain ⟨e1,e2,e3,e4⟩:=jsl_jd h hw
 have hw1:=jsl_wf hw 1 hb J
 unfold jbegin
 cases hs : (jsl D J).1
 ·rw [if_pos rfl]
  obtain ⟨e5,e6⟩:=e2 hs
  exact ⟨fun hh=>(by cases hh),fun _=>⟨e5,e6,rfl⟩,e3,e4⟩
 ·rw [if_neg (by simp)]
  obtain ⟨e5,e6⟩:=e1 hs
  obtain ⟨c1,c2,c3,c4⟩:=JD.create e5 hw1 hk (.inl rfl)
  cases hc : (jsl D J).2.creates (fnm (J.num + 1))
  ·rw [if_pos rfl]
   obtain ⟨c5,c6⟩:=c2 hc
   exact ⟨fun hh=>(by cases hh),fun _=>⟨c5.less,by show _ < ((jsl D J).2.create _).failed;omega,rfl⟩,c3.trans e3,c4.trans e4⟩
  ·rw [if_neg (by simp)]
   obtain ⟨c5,c6⟩:=c1 hc
   exact ⟨fun _=>⟨c5,c6.trans e6,rfl⟩,fun hh=>(by cases hh),c3.trans e3,c4.trans e4⟩
theorem jwrite_jd {J : Jn} (h : JDJ D ms J sy hd) (hw : D.WF) (hk : 1<=J.num) (hc : J.cut = false) (t : ByteArray) (m : Mt) (ht : bs t = encB m) (hm : m.OK) (hb : J.size + t.size<=100000) (hr : (t.size : Int)<=D.cap - D.bytes) :
  ((jwrite D J t).1 = true->JDJ (jwrite D J t).2.1 (ms ++ [m]) (jwrite D J t).2.2 false hd/\(jwrite D J t).2.1.failed = D.failed/\(jwrite D J t).2.2 = ⟨J.roll,J.num,J.size + t.size,false⟩)/\((jwrite D J t).1 = false->JDJ (jwrite D J t).2.1 ms J false hd/\D.failed < (jwrite D J t).2.1.failed/\(jwrite D J t).2.2 = J)/\(jwrite D J t).2.1.cap = D.cap:=by
 have h' : JD D ms J.num J.size false sy hd:=hc ▸ h
 obtain ⟨e1,e2,e3⟩:=h'.append hw hk t m ht hm hb hr
 unfold jwrite
 cases ha : D.appends (fnm J.num) t
 ·rw [if_neg (by simp)]
  obtain ⟨e4,e5⟩:=e2 ha
  exact ⟨fun hh=>(by cases hh),fun _=>⟨by show JD _ ms J.num J.size J.cut false hd;rw [hc];exact e4.less,e5,rfl⟩,e3⟩
 ·rw [if_pos rfl]
  obtain ⟨e4,e5⟩:=e1 ha
  exact ⟨fun _=>⟨by show JD _ _ J.num (J.size + t.size) J.cut false hd;rw [hc];exact e4,e5,by rw [hc]⟩,fun hh=>(by cases hh),e3⟩
theorem jappend_jd {J : Jn} (h : JDJ D ms J sy hd) (hw : D.WF) (hbu : D.Bud 3) (hk : J.num < 900000000) (hro : J.roll<=100000) (t : ByteArray) (m : Mt) (ht : bs t = encB m) (hm : m.OK) (hts : t.size<=1000) (hr : (t.size : Int)<=D.cap - D.bytes) :
  ((jappend D J t).1 = true->JDJ (jappend D J t).2.1 (ms ++ [m]) (jappend D J t).2.2 false hd/\(jappend D J t).2.1.failed = D.failed)/\((jappend D J t).1 = false->JDJ (jappend D J t).2.1 ms (jappend D J t).2.2 false hd/\D.failed < (jappend D J t).2.1.failed)/\(jappend D J t).2.1.cap = D.cap/\(jappend D J t).2.2.roll = J.roll/\(jappend D J t).2.1.WF:=by
 obtain ⟨b1,b2,b3,b4⟩:=jbegin_jd h hw (hbu.mono (by omega)) (by omega)
 have bw:=jbegin_wf hw 1 hbu J
 have bb:=jbegin_bud hw (k:=1) hbu J
 unfold jappend
 cases hn : jneeds J t
 ·rw [if_neg (by simp)]
  unfold jneeds at hn
  simp only [Bool.or_eq_false_iff,decide_eq_false_iff_not] at hn
  obtain ⟨⟨n1,n2⟩,n3⟩:=hn
  obtain ⟨e1,e2,e3⟩:=jwrite_jd h hw (by omega) n2 t m ht hm (by omega) hr
  refine ⟨fun hh=>⟨(e1 hh).1,(e1 hh).2.1⟩,fun hh=>⟨by rw [(e2 hh).2.2];exact (e2 hh).1,(e2 hh).2.1⟩,e3,?_,jwrite_wf hw (hbu.mono (by omega)) J t (by rw [JD.sizeOf h (by omega)];omega)⟩
  unfold jwrite;split <;> rfl
 ·rw [if_pos rfl]
  cases hb : (jbegin D J).1
  ·rw [if_neg (by simp)]
   obtain ⟨e1,e2,e3⟩:=b2 hb
   exact ⟨fun hh=>(by cases hh),fun _=>⟨by rw [e3];exact e1,e2⟩,b3,by rw [e3],bw⟩
  ·rw [if_pos rfl]
   obtain ⟨e1,e2,e3⟩:=b1 hb
   have hr2 : (t.size : Int)<=(jbegin D J).2.1.cap - (jbegin D J).2.1.bytes:=by rw [b3,b4];exact hr
   rw [e3] at e1
   rw [e3]
   obtain ⟨w1,w2,w3⟩:=jwrite_jd (J:=⟨J.roll,J.num + 1,0,false⟩) e1 bw (by show 1<=J.num + 1;omega) rfl t m ht hm (by show 0 + t.size<=_;omega) hr2
   refine ⟨fun hh=>⟨(w1 hh).1,by rw [(w1 hh).2.1];exact e2⟩,fun hh=>⟨by rw [(w2 hh).2.2];exact (w2 hh).1,by have:=(w2 hh).2.1;rw [e2] at this;exact this⟩,w3.trans b3,?_,jwrite_wf bw bb _ t (by rw [JD.sizeOf e1 (by show 1<=J.num + 1;omega)];show 0 + t.size<=_;omega)⟩
   unfold jwrite;split <;> rfl
end Go.Proofs.YtilkdeghknjjhaaGreatDoor
namespace Go.Proofs.YtilkdeghknjjhaaGreatDoor
open Go.RowKit M Go.Maps
noncomputable def delF (D : Dk) (J : Jn) (S : St) (k c : ByteArray) : Int × Dk × Jn × St :=
 stopF (if (mutF S k ⟨#[]⟩ c).2 = 0 then (if anyCov (mutF S k ⟨#[]⟩ c).1.c (S.M (mutF S k ⟨#[]⟩ c).1.k).L = true then doF D J S { (mutF S k ⟨#[]⟩ c).1 with del:=true } else (0,D,J,S)) else ((mutF S k ⟨#[]⟩ c).2,D,J,S))
theorem result_del (tmps : Array Value) (w : World) (g : Nat) (n : Int) (h4 : tmps.getD 6 undef = .pointer (some ⟨g,0,none⟩)) (hg : w.cell? ⟨g,0,none⟩ = some (.int .i64 n)) :
  (results Tryz.f31 tmps).run Tryz.prog w = .ok (.int .i64 n) w:=by
 have h4' : tmps[6]?.getD undef = .pointer (some ⟨g,0,none⟩):=by simpa using h4
 simp [results,Tryz.results31,h4',asAddr,go_sem,hg]
theorem sdel_gen (Z Y : Nat->Prop) (s j d : Nat) (mv : Value) (n : Nat) (D : Dk) (J : Jn) (S : St) (k c : ByteArray) (w : World) (h : Sto Z Y w s j d mv n D J S) (hX : (mutF S k ⟨#[]⟩ c).2 = 0->WrPre D J S)
  (hk : k.size<=1000000000) (hc : c.size<=1000000000) (hn : n < 900000000000) (hcn : 0<=S.cnt) (hc2 : S.cnt<=1000000000000000) (hE : (S.M k).L.length<=6) :
  Calls Tryz.prog 31 #[.pointer (some ⟨s,0,none⟩),.string k,.string c] w fun e w'=>e = .returned (.int .i64 (delF D J S k c).1)/\StoX Z Y w w' s j d (n + 2) (delF D J S k c).2.1 (delF D J S k c).2.2.1 (delF D J S k c).2.2.2:=by
 obtain ⟨W,hW,HB,HA⟩ : ∃ W,(w.alloc (.cells #[.int .i64 0] 31)) = W/\Hid (Below w.heap.size w W)/\Hid (W.heap[w.heap.size]? = some (.cells #[.int .i64 0] 31 (0,0))) :=
  ⟨_,rfl,(Below.refl _ _).alloc (Nat.le_refl _) _,heap_alloc_new w _⟩
 have HW1 : Hid (w.heap.size < W.heap.size):=by show _ < _;rw [<- hW];simp
 have H0 : Hid (Sto Z Y w s j d mv n D J S):=h
 have HM:=smut_any Y s _ mv j n S k ⟨#[]⟩ c W (h.below HB.out).st hk (by simp [ByteArray.size]) hc (by omega) (by omega)
 obtain ⟨q,hq⟩ : ∃ q,mutF S k ⟨#[]⟩ c = q:=⟨_,rfl⟩
 have HP : Hid (delF D J S k c = stopF (if q.2 = 0 then (if anyCov q.1.c (S.M q.1.k).L = true then doF D J S { q.1 with del:=true } else (0,D,J,S)) else (q.2,D,J,S))):=by show _ = _;unfold delF;rw [hq]
 have HX : Hid (q.2 = 0->WrPre D J S):=by rw [<- hq];exact hX
 clear hX
 have HOk : Hid (q.2 = 0->q.1.k.size<=40/\q.1.v.size<=200/\q.1.count = S.cnt + 1/\q.1.k = k):=by rw [<- hq];exact mutF_ok
 obtain ⟨R,hR⟩ : ∃ R,delF D J S k c = R:=⟨_,rfl⟩
 rw [hR] at HP ⊢
 rw [hq] at HM
 obtain ⟨⟨del,node,count,kk,C,vv⟩,ne⟩:=q
 replace HM : Calls Tryz.prog 49 #[.pointer (some ⟨s,0,none⟩),.string k,.string ⟨#[]⟩,.string c] W fun e w'=>∃ a l cap,e = .returned (.tuple #[.agg #[.bool del,.int .i64 node,.int .i64 count,.string kk,.slice a l cap,.string vv],.int .i64 ne])/\Rd w' (.slice a l cap) C/\InZ (fun k=>W.heap.size<=k/\k < w'.heap.size) (.slice a l cap)/\Below W.heap.size W w':=by
  refine HM.mono ?_
  rintro e w1 ⟨vc,rfl,hrd,hz,hb1⟩
  obtain ⟨av,cv,rfl⟩:=hrd.shape
  exact ⟨_,_,_,rfl,hrd,hz,hb1⟩
 clear hq hR h
 go_enter_defers Tryz.func31,Tryz.ntmps31
 go_upto_region 1 with (fail)
 clear hW
 go_wp2_with fail
 refine HM.mono ?_
 rintro e w1 ⟨av,lv,cv,rfl,hrd,hz,hb1⟩
 obtain ⟨W2,hW2,HB2,HM2,HA2⟩ : ∃ W2,w1.alloc (.cells #[.bool del,.int .i64 node,.int .i64 count,.string kk,.slice av lv cv,.string vv] 111) = W2/\Hid (Below W.heap.size W W2)/\Hid (W2.heap[w1.heap.size]? = some (.cells #[.bool del,.int .i64 node,.int .i64 count,.string kk,.slice av lv cv,.string vv] 111 (0,0))) /\
   Hid (W2.heap[w.heap.size]? = some (.cells #[.int .i64 0] 31 (0,0))):=⟨_,rfl,belowA hb1,heap_alloc_new w1 _,heap_later (belowA hb1) HA.out⟩
 have f0 : W2.cell? ⟨w.heap.size,0,none⟩ = some (.int .i64 0):=by rw [cell_of_row _ _ _ _ _ _ HA2.out];rfl
 have z0 : W2.frozen? ⟨w.heap.size,0,none⟩ = false:=frozen_of_row _ _ _ _ _ HA2.out
 have HSz : Hid (w.heap.size < W.heap.size/\W.heap.size<=w1.heap.size/\w1.heap.size < W2.heap.size):=⟨HW1.out,hb1.size,by rw [<- hW2];simp⟩
 obtain ⟨W3,hW3,HB3,HM3,HA3⟩ : ∃ W3,W2.setCell ⟨w.heap.size,0,none⟩ (.int .i64 ne) = W3/\Hid (Below w.heap.size w W3/\W3.heap.size = W2.heap.size)/\Hid (W3.heap[w1.heap.size]? = some (.cells #[.bool del,.int .i64 node,.int .i64 count,.string kk,.slice av lv cv,.string vv] 111 (0,0))) /\
   Hid (W3.heap[w.heap.size]? = some (.cells #[.int .i64 ne] 31 (0,0))):=by
  have h1:=HSz.out
  exact ⟨_,rfl,⟨(belowN HB.out HB2.out).setCell (Nat.le_refl _) _,by simp [World.setCell]⟩,by rw [Below.heap_setCell _ _ _ _ (fun e : w1.heap.size = w.heap.size=>by omega)];exact HM2.out,by rw [heap_setCell_self HA2.out];rfl⟩
 have g0 : W3.cell? ⟨w.heap.size,0,none⟩ = some (.int .i64 ne):=by rw [cell_of_row _ _ _ _ _ _ HA3.out];rfl
 have g1 : W3.frozen? ⟨w.heap.size,0,none⟩ = false:=frozen_of_row _ _ _ _ _ HA3.out
 have HRd : Hid (Rd W3 (.slice av lv cv) C/\InZ (fun k=>¬ Y k/\k < W3.heap.size) (.slice av lv cv)):=by
  have h1:=HSz.out
  have h2:=HB3.out.2
  refine ⟨?_,fun i hi=>?_⟩
  ·have hb : Below w1.heap.size w1 W2:=by rw [<- hW2];exact belowA (Below.refl _ _)
   rw [<- hW3]
   exact (hrd.below hb).tr ((Tr.refl (One w.heap.size) W2).set1 0 _) (fun i hi (e : i = w.heap.size)=>by have:=hz i hi;omega)
  ·have:=hz i hi
   exact ⟨fun hy=>by have:=H0.out.st.lt i hy;omega,by omega⟩
 have HZi : Hid (InZ (fun k=>W.heap.size<=k/\k < w1.heap.size) (.slice av lv cv)):=hz
 clear hrd hz hb1 HA2 HM2
 by_cases hne : ne = 0
 ·subst hne
  obtain ⟨k1,k2,k3,k4⟩:=HOk.out rfl
  obtain ⟨hwf,hwf2,hbu,hjn,hjs,hjr,hc0,hc1⟩:=HX.out rfl
  have HF0 : Hid (R = stopF (if anyCov C (S.M kk).L = true then doF D J S ⟨true,node,count,kk,C,vv⟩ else (0,D,J,S))):=by show _ = _;rw [HP.out,if_pos rfl]
  have p0 : W3.cell? ⟨w1.heap.size,0,none⟩ = some (.bool del):=by rw [cell_of_row _ _ _ _ _ _ HM3.out];rfl
  have pz : W3.frozen? ⟨w1.heap.size,0,none⟩ = false:=frozen_of_row _ _ _ _ _ HM3.out
  obtain ⟨W4,hW4,HB4,HM4,HA4,HRd4⟩ : ∃ W4,W3.setCell ⟨w1.heap.size,0,none⟩ (.bool true) = W4/\Hid (Below w.heap.size w W4/\W4.heap.size = W3.heap.size)/\Hid (W4.heap[w1.heap.size]? = some (.cells #[.bool true,.int .i64 node,.int .i64 count,.string kk,.slice av lv cv,.string vv] 111 (0,0))) /\
    Hid (W4.heap[w.heap.size]? = some (.cells #[.int .i64 0] 31 (0,0)))/\Hid (Rd W4 (.slice av lv cv) C/\InZ (fun k=>¬ Y k/\k < W4.heap.size) (.slice av lv cv)):=by
   have h1:=HSz.out
   have h2:=HB3.out.2
   have h3 : (W3.setCell ⟨w1.heap.size,0,none⟩ (.bool true)).heap.size = W3.heap.size:=by simp [World.setCell]
   refine ⟨_,rfl,⟨HB3.out.1.setCell (by show w.heap.size<=w1.heap.size;omega) _,h3⟩,by rw [heap_setCell_self HM3.out];rfl,by rw [Below.heap_setCell _ _ _ _ (fun e : w.heap.size = w1.heap.size=>by omega)];exact HA3.out,HRd.out.1.tr ((Tr.refl (One w1.heap.size) W3).set1 0 _) (fun i hi (e : i = w1.heap.size)=>by have:=HZi.out i hi;omega),fun i hi=>?_⟩
   rw [h3]
   exact HRd.out.2 i hi
  have hcell : ∀ o,W4.cell? ⟨w1.heap.size,o,none⟩ = #[Value.bool true,.int .i64 node,.int .i64 count,.string kk,.slice av lv cv,.string vv][o]?:=fun o=>by rw [cell_of_row _ _ _ _ _ _ HM4.out]
  have x0:=(hcell 0).trans (b:=some (Value.bool true)) rfl
  have x1:=(hcell 1).trans (b:=some (Value.int .i64 node)) rfl
  have x2:=(hcell 2).trans (b:=some (Value.int .i64 count)) rfl
  have x3:=(hcell 3).trans (b:=some (Value.string kk)) rfl
  have x4:=(hcell 4).trans (b:=some (Value.slice av lv cv)) rfl
  have x5:=(hcell 5).trans (b:=some (Value.string vv)) rfl
  have HS3 : Hid (Sto Z Y W4 s j d mv n D J S):=H0.out.below HB4.out.1
  have HTk : Hid (Calls Tryz.prog 57 #[.pointer (some ⟨s,0,none⟩),.agg #[.bool true,.int .i64 node,.int .i64 count,.string kk,.slice av lv cv,.string vv]] W4 fun e w'=>e = .returned (.bool (anyCov C (S.M kk).L))/\Below W4.heap.size W4 w') :=
   takes_any Y s _ _ mv n S ⟨true,node,count,kk,C,vv⟩ (.slice av lv cv) W4 HS3.out.st HRd4.out.1 (by simp only at k1 ⊢;unfold maxLen;omega)
  have HDo : Hid (∀ X,Below W4.heap.size W4 X->Calls Tryz.prog 50 #[.pointer (some ⟨s,0,none⟩),.agg #[.bool true,.int .i64 node,.int .i64 count,.string kk,.slice av lv cv,.string vv]] X fun e w'=>e = .returned (.int .i64 (doF D J S ⟨true,node,count,kk,C,vv⟩).1)/\StoX Z Y X w' s j d (n + 2) (doF D J S ⟨true,node,count,kk,C,vv⟩).2.1 (doF D J S ⟨true,node,count,kk,C,vv⟩).2.2.1 (doF D J S ⟨true,node,count,kk,C,vv⟩).2.2.2):=fun X hX =>
   sdo_any Z Y s j d mv n D J S ⟨true,node,count,kk,C,vv⟩ (.slice av lv cv) X (HS3.out.below hX) hwf (hwf2 _ (by simp only at k1 ⊢;omega) (by simp only at k2 ⊢;omega)) hbu hjn hjs hjr (HRd4.out.1.below hX) (fun i hi=>⟨(HRd4.out.2 i hi).1,Nat.lt_of_lt_of_le (HRd4.out.2 i hi).2 hX.size⟩) (by simp only at k1 ⊢;omega) (by simp only at k2 ⊢;omega) hn hc0 hc1 k3 hc2 (by simp only at k4 ⊢;rw [k4];exact hE)
  obtain ⟨Q,hQ⟩ : ∃ Q,doF D J S ⟨true,node,count,kk,C,vv⟩ = Q:=⟨_,rfl⟩
  obtain ⟨tk,htk⟩ : ∃ tk,anyCov C (S.M kk).L = tk:=⟨_,rfl⟩
  rw [hQ,htk] at HF0
  rw [hQ] at HDo
  rw [htk] at HTk
  have HSx : Hid (w.heap.size < W4.heap.size):=by have:=HSz.out;have:=HB3.out.2;have:=HB4.out.2;show _ < _;omega
  clear hcell k1 k2 k3 k4 hQ HP HOk htk
  go_upto_region 5 with (fail)
  clear hW2 hW3 f0 z0
  go_wp2_with fail
  refine HTk.out.mono ?_
  rintro e w5 ⟨rfl,hb5⟩
  have HA5 : Hid (w5.heap[w.heap.size]? = some (.cells #[.int .i64 0] 31 (0,0))):=heap_later hb5 HA4.out
  have y0:=cell_later hb5 x0
  have y1:=cell_later hb5 x1
  have y2:=cell_later hb5 x2
  have y3:=cell_later hb5 x3
  have y4:=cell_later hb5 x4
  have y5:=cell_later hb5 x5
  have HB5 : Hid (Below w.heap.size w w5):=belowN HB4.out.1 hb5
  have HSy : Hid (w.heap.size < w5.heap.size):=Nat.lt_of_lt_of_le HSx.out hb5.size
  have g5 : w5.cell? ⟨w.heap.size,0,none⟩ = some (.int .i64 0):=by rw [cell_of_row _ _ _ _ _ _ HA5.out];rfl
  have z5 : w5.frozen? ⟨w.heap.size,0,none⟩ = false:=frozen_of_row _ _ _ _ _ HA5.out
  clear hW4 p0 pz x0 x1 x2 x3 x4 x5 g0 g1
  cases tk
  ·have HF : Hid (R = stopF (0,D,J,S)):=HF0
   obtain ⟨W6,hW6,HX6,ha6⟩ : ∃ W6,w5.setCell ⟨w.heap.size,0,none⟩ (.int .i64 0) = W6/\Hid (StoX Z Y w W6 s j d (n + 2) D J S)/\W6.cell? ⟨w.heap.size,0,none⟩ = some (.int .i64 0) :=
    ⟨_,rfl,StoX.refl H0.out (HB5.out.setCell (Nat.le_refl _) _) (by omega),World.cell?_setCell_same w5 ⟨w.heap.size,0,none⟩ _ g5⟩
   clear HDo hb5
   go_wp2
   refine leaves_cons (f:=40) (args:=#[.pointer (some ⟨s,0,none⟩),.pointer (some ⟨w.heap.size,0,none⟩)]) (by simp) (by simp [go_sem]) ?_
   refine (stop_end (0,D,J,S) HX6.out (fun _=>H0.out.st.ys) w.heap.size .returning ha6 (fun e=>by have:=H0.out.st.lt _ H0.out.st.ys;omega)).mono ?_
   rintro e u' w'' ⟨rfl,rfl,h8,h9⟩
   exact ⟨_,result_del _ _ w.heap.size _ rfl h9,by rw [HF.out],by rw [HF.out];exact h8⟩
  ·have HF : Hid (R = stopF Q):=HF0
   have HDq:=HDo.out w5 hb5
   clear hb5 HDo
   go_wp2_with fail
   refine HDq.mono ?_
   rintro e w7 ⟨rfl,hX7⟩
   have hr7 : w7.heap[w.heap.size]? = some (.cells #[.int .i64 0] 31 (0,0)):=hX7.2.heap HA5.out (fun hz=>by
    rcases hz with hz | hz | hz
    ·have:=H0.out.lz _ hz;omega
    ·have:=H0.out.st.lt _ hz;omega
    ·have:=H0.out.jlt;omega)
   have f7 : w7.cell? ⟨w.heap.size,0,none⟩ = some (.int .i64 0):=by rw [cell_of_row _ _ _ _ _ _ hr7];rfl
   have z7 : w7.frozen? ⟨w.heap.size,0,none⟩ = false:=frozen_of_row _ _ _ _ _ hr7
   obtain ⟨W6,hW6,HX6,ha6⟩ : ∃ W6,w7.setCell ⟨w.heap.size,0,none⟩ (.int .i64 Q.1) = W6/\Hid (StoX Z Y w W6 s j d (n + 2) Q.2.1 Q.2.2.1 Q.2.2.2)/\W6.cell? ⟨w.heap.size,0,none⟩ = some (.int .i64 Q.1) :=
    ⟨_,rfl,StoX.cell H0.out hX7 HB5.out (Nat.le_refl _) HSy.out ((Tr.refl (One w.heap.size) w7).set1 0 _),World.cell?_setCell_same w7 ⟨w.heap.size,0,none⟩ _ f7⟩
   clear hX7 hr7
   go_wp2
   refine leaves_cons (f:=40) (args:=#[.pointer (some ⟨s,0,none⟩),.pointer (some ⟨w.heap.size,0,none⟩)]) (by simp) (by simp [go_sem]) ?_
   refine (stop_end Q HX6.out (fun _=>H0.out.st.ys) w.heap.size .returning ha6 (fun e=>by have:=H0.out.st.lt _ H0.out.st.ys;omega)).mono ?_
   rintro e u' w'' ⟨rfl,rfl,h8,h9⟩
   exact ⟨_,result_del _ _ w.heap.size _ rfl h9,by rw [HF.out],by rw [HF.out];exact h8⟩
 ·have hneb : (ne != 0) = true:=by simp [hne]
  have HF : Hid (R = stopF (ne,D,J,S)):=by show _ = _;rw [HP.out,if_neg hne]
  go_upto_region 3 with (fail)
  clear hW2 hW3 f0 z0
  obtain ⟨W4,hW4,HX4,ha4⟩ : ∃ W4,W3.setCell ⟨w.heap.size,0,none⟩ (.int .i64 ne) = W4/\Hid (StoX Z Y w W4 s j d (n + 2) D J S)/\W4.cell? ⟨w.heap.size,0,none⟩ = some (.int .i64 ne):=by
   have hb : Below w.heap.size w (W3.setCell ⟨w.heap.size,0,none⟩ (.int .i64 ne)):=HB3.out.1.setCell (Nat.le_refl _) _
   exact ⟨_,rfl,StoX.refl H0.out hb (by omega),World.cell?_setCell_same W3 ⟨w.heap.size,0,none⟩ _ g0⟩
  go_wp2
  refine leaves_cons (f:=40) (args:=#[.pointer (some ⟨s,0,none⟩),.pointer (some ⟨w.heap.size,0,none⟩)]) (by simp) (by simp [go_sem]) ?_
  refine (stop_end (ne,D,J,S) HX4.out (fun _=>H0.out.st.ys) w.heap.size .returning ha4 (fun e=>by have:=H0.out.st.lt _ H0.out.st.ys;omega)).mono ?_
  rintro e u' w'' ⟨rfl,rfl,h8,h9⟩
  exact ⟨_,result_del _ _ w.heap.size _ rfl h9,by rw [HF.out],by rw [HF.out];exact h8⟩
end Go.Proofs.YtilkdeghknjjhaaGreatDoor
namespace Go.Proofs.YtilkdeghknjjhaaGreatDoor
open Go.RowKit M Go.Maps
noncomputable def syncF (D : Dk) (J : Jn) (S : St) : Int × Dk × Jn × St :=
 stopF (if S.ro = true then (4,D,J,S) else if (holdF D J S).1 = true then (0,(holdF D J S).2.1,J,(holdF D J S).2.2) else (7,(holdF D J S).2.1,J,(holdF D J S).2.2))
theorem result_sync (tmps : Array Value) (w : World) (g : Nat) (n : Int) (h4 : tmps.getD 2 undef = .pointer (some ⟨g,0,none⟩)) (hg : w.cell? ⟨g,0,none⟩ = some (.int .i64 n)) :
  (results Tryz.f15 tmps).run Tryz.prog w = .ok (.int .i64 n) w:=by
 have h4' : tmps[2]?.getD undef = .pointer (some ⟨g,0,none⟩):=by simpa using h4
 simp [results,Tryz.results15,h4',asAddr,go_sem,hg]
theorem ssync_any (Z Y : Nat->Prop) (s j d : Nat) (mv : Value) (n : Nat) (D : Dk) (J : Jn) (S : St) (w : World) (h : Sto Z Y w s j d mv n D J S) (hwf : D.WF) (hbu : D.Bud 2) (hjn : J.num < 900000000) :
  Calls Tryz.prog 15 #[.pointer (some ⟨s,0,none⟩)] w fun e w'=>e = .returned (.int .i64 (syncF D J S).1)/\StoX Z Y w w' s j d n (syncF D J S).2.1 (syncF D J S).2.2.1 (syncF D J S).2.2.2:=by
 obtain ⟨W,hW,HB,HA⟩ : ∃ W,(w.alloc (.cells #[.int .i64 0] 31)) = W/\Hid (Below w.heap.size w W)/\Hid (W.heap[w.heap.size]? = some (.cells #[.int .i64 0] 31 (0,0))) :=
  ⟨_,rfl,(Below.refl _ _).alloc (Nat.le_refl _) _,heap_alloc_new w _⟩
 have HW1 : Hid (w.heap.size < W.heap.size):=by show _ < _;rw [<- hW];simp
 have H0 : Hid (Sto Z Y w s j d mv n D J S):=h
 have HS : Hid (Sto Z Y W s j d mv n D J S):=h.below HB.out
 have HCl : Hid (Calls Tryz.prog 39 #[.pointer (some ⟨s,0,none⟩)] W fun e w'=>e = .returned (.bool false)/\w' = W):=closed_no Y s j _ mv n S W HS.out.st
 have HH : Hid (Calls Tryz.prog 41 #[.pointer (some ⟨s,0,none⟩)] W fun e w'=>e = .returned (.bool (holdF D J S).1)/\StoE Z Y W w' s j d mv n (holdF D J S).2.1 J (holdF D J S).2.2):=hold_any Z Y s j d mv n D J S W HS.out hwf hbu (by omega)
 have HP : Hid (syncF D J S = stopF (if S.ro = true then (4,D,J,S) else if (holdF D J S).1 = true then (0,(holdF D J S).2.1,J,(holdF D J S).2.2) else (7,(holdF D J S).2.1,J,(holdF D J S).2.2))):=rfl
 obtain ⟨R,hR⟩ : ∃ R,syncF D J S = R:=⟨_,rfl⟩
 rw [hR] at HP ⊢
 obtain ⟨⟨b,D1,S1⟩,hq⟩ : ∃ q,holdF D J S = q:=⟨_,rfl⟩
 rw [hq] at HP HH
 simp only at HP HH
 have c8 : W.cell? ⟨s,8,none⟩ = some (.bool S.ro):=(HS.out.st.cell 8).trans rfl
 have f0 : W.cell? ⟨w.heap.size,0,none⟩ = some (.int .i64 0):=by rw [cell_of_row _ _ _ _ _ _ HA.out];rfl
 have z0 : W.frozen? ⟨w.heap.size,0,none⟩ = false:=frozen_of_row _ _ _ _ _ HA.out
 have HEnd : Hid (∀ X m D' J' S',StoX Z Y W X s j d n D' J' S'->X.cell? ⟨w.heap.size,0,none⟩ = some (.int .i64 0)->StoX Z Y w (X.setCell ⟨w.heap.size,0,none⟩ (.int .i64 m)) s j d n D' J' S'/\(X.setCell ⟨w.heap.size,0,none⟩ (.int .i64 m)).cell? ⟨w.heap.size,0,none⟩ = some (.int .i64 m)):=fun X m D' J' S' hX hc =>
  ⟨StoX.cell H0.out hX HB.out (Nat.le_refl _) HW1.out ((Tr.refl (One w.heap.size) X).set1 0 _),World.cell?_setCell_same X ⟨w.heap.size,0,none⟩ _ hc⟩
 have HFar : Hid (∀ X D' J' S',StoX Z Y W X s j d n D' J' S'->X.cell? ⟨w.heap.size,0,none⟩ = some (.int .i64 0)/\X.frozen? ⟨w.heap.size,0,none⟩ = false):=fun X D' J' S' hX=>by
  have hr:=hX.2.heap HA.out (fun hz=>by
   rcases hz with hz | hz | hz
   ·have:=H0.out.lz _ hz;omega
   ·have:=H0.out.st.lt _ hz;omega
   ·have:=H0.out.jlt;omega)
  exact ⟨by rw [cell_of_row _ _ _ _ _ _ hr];rfl,frozen_of_row _ _ _ _ _ hr⟩
 have HNe : Hid (w.heap.size ≠ s):=fun e=>by have:=H0.out.st.lt _ H0.out.st.ys;omega
 clear h hq hR hwf hbu
 go_enter_defers Tryz.func15,Tryz.ntmps15
 go_upto_region 1 with (fail)
 clear hW
 go_wp2_with fail
 refine HCl.out.mono ?_
 rintro e w1 ⟨rfl,rfl⟩
 cases hro : S.ro
 ·rw [hro] at c8
  go_wp2_with fail
  refine HH.out.mono ?_
  rintro e w2 ⟨rfl,hX⟩
  have HX:=hX.x
  obtain ⟨f2,z2⟩:=HFar.out w2 _ _ _ HX
  cases b
  ·have HF : Hid (R = stopF (7,D1,J,S1)):=by show _ = _;rw [HP.out,if_neg (by rw [hro];simp),if_neg (by simp)]
   obtain ⟨W4,hW4,HX4,ha4⟩ : ∃ W4,w2.setCell ⟨w.heap.size,0,none⟩ (.int .i64 7) = W4/\Hid (StoX Z Y w W4 s j d n D1 J S1)/\W4.cell? ⟨w.heap.size,0,none⟩ = some (.int .i64 7):=⟨_,rfl,(HEnd.out w2 7 _ _ _ HX f2).1,(HEnd.out w2 7 _ _ _ HX f2).2⟩
   clear hX HX HP
   go_wp2
   refine leaves_cons (f:=40) (args:=#[.pointer (some ⟨s,0,none⟩),.pointer (some ⟨w.heap.size,0,none⟩)]) (by simp) (by simp [go_sem]) ?_
   refine (stop_end (7,D1,J,S1) HX4.out (fun _=>H0.out.st.ys) w.heap.size .returning ha4 HNe.out).mono ?_
   rintro e u' w'' ⟨rfl,rfl,h8,h9⟩
   exact ⟨_,result_sync _ _ w.heap.size _ rfl h9,by rw [HF.out],by rw [HF.out];exact h8⟩
  ·have HF : Hid (R = stopF (0,D1,J,S1)):=by show _ = _;rw [HP.out,if_neg (by rw [hro];simp),if_pos rfl]
   obtain ⟨W4,hW4,HX4,ha4⟩ : ∃ W4,w2.setCell ⟨w.heap.size,0,none⟩ (.int .i64 0) = W4/\Hid (StoX Z Y w W4 s j d n D1 J S1)/\W4.cell? ⟨w.heap.size,0,none⟩ = some (.int .i64 0):=⟨_,rfl,(HEnd.out w2 0 _ _ _ HX f2).1,(HEnd.out w2 0 _ _ _ HX f2).2⟩
   clear hX HX HP
   go_wp2
   refine leaves_cons (f:=40) (args:=#[.pointer (some ⟨s,0,none⟩),.pointer (some ⟨w.heap.size,0,none⟩)]) (by simp) (by simp [go_sem]) ?_
   refine (stop_end (0,D1,J,S1) HX4.out (fun _=>H0.out.st.ys) w.heap.size .returning ha4 HNe.out).mono ?_
   rintro e u' w'' ⟨rfl,rfl,h8,h9⟩
   exact ⟨_,result_sync _ _ w.heap.size _ rfl h9,by rw [HF.out],by rw [HF.out];exact h8⟩
 ·have HF : Hid (R = stopF (4,D,J,S)):=by show _ = _;rw [HP.out,if_pos hro]
  rw [hro] at c8
  obtain ⟨W4,hW4,HX4,ha4⟩ : ∃ W4,w1.setCell ⟨w.heap.size,0,none⟩ (.int .i64 4) = W4/\Hid (StoX Z Y w W4 s j d n D J S)/\W4.cell? ⟨w.heap.size,0,none⟩ = some (.int .i64 4) :=
   ⟨_,rfl,StoX.refl H0.out (HB.out.setCell (Nat.le_refl _) _) (Nat.le_refl _),World.cell?_setCell_same w1 ⟨w.heap.size,0,none⟩ _ f0⟩
  clear HP
  go_wp2
  refine leaves_cons (f:=40) (args:=#[.pointer (some ⟨s,0,none⟩),.pointer (some ⟨w.heap.size,0,none⟩)]) (by simp) (by simp [go_sem]) ?_
  refine (stop_end (4,D,J,S) HX4.out (fun _=>H0.out.st.ys) w.heap.size .returning ha4 HNe.out).mono ?_
  rintro e u' w'' ⟨rfl,rfl,h8,h9⟩
  exact ⟨_,result_sync _ _ w.heap.size _ rfl h9,by rw [HF.out],by rw [HF.out];exact h8⟩
theorem counter_any (Y : Nat->Prop) (s : Nat) (dv jv mv : Value) (n : Nat) (S : St) (w : World) (h : StIn Y w s dv jv mv n S) :
  Calls Tryz.prog 27 #[.pointer (some ⟨s,0,none⟩)] w fun e w'=>e = .returned (.int .i64 S.cnt)/\w' = w:=by
 have c6 : w.cell? ⟨s,6,none⟩ = some (.int .i64 S.cnt):=(h.cell 6).trans rfl
 clear h
 go_enter Tryz.func27,Tryz.ntmps27
 go_wp2
 go_ret
 exact ⟨rfl,rfl⟩
def StKeys (M : ByteArray->Se) (ks : List ByteArray) : Prop:=ks.Pairwise (fun a b=>bl a b = true)/\∀ x,x ∈ ks ↔ (M x).L ≠ []
theorem skeys_any (Y : Nat->Prop) (s : Nat) (dv jv mv : Value) (n : Nat) (S : St) (w : World) (h : StIn Y w s dv jv mv n S) (hn : n<=1000000000) :
  Calls Tryz.prog 28 #[.pointer (some ⟨s,0,none⟩)] w fun e w'=>∃ v ks,e = .returned v/\StKeys S.M ks/\OwnX w' w.heap.size v ks/\Below w.heap.size w w':=by
 have c5 : w.cell? ⟨s,5,none⟩ = some mv:=(h.cell 5).trans rfl
 obtain ⟨T,hT,hT2⟩:=h.tab.ex
 have HK:=tKeys_any s 5 mv n T w c5 hT hn
 have HQ : Hid (∀ ks,TKeys T ks->StKeys S.M ks):=fun ks hk=>by
  refine ⟨hk.1,fun x=>(hk.2 x).trans ?_⟩
  cases hx : T x with
  | none=>rw [(hT2 x).1 hx];simp [Se.nil]
  | some v=>simpa using ((hT2 x).2 v hx).1
 clear h c5 hT hT2
 go_enter Tryz.func28,Tryz.ntmps28
 go_wp2_with fail
 refine HK.mono ?_
 rintro e w' ⟨v,ks,rfl,h1,h2,h3⟩
 go_wp2
 go_ret
 exact ⟨v,ks,rfl,HQ.out ks h1,h2,h3⟩
end Go.Proofs.YtilkdeghknjjhaaGreatDoor
namespace Go.Proofs.YtilkdeghknjjhaaGreatDoor
open Go.RowKit M Go.Maps
def SGetEnd (dead : Bool) (key : ByteArray) (S : Se) (B : Nat) (e : Ending) (w' : World) : Prop :=
 (¬ (keyOK key = true/\dead = true)/\GetEnd key S B e w')\/(keyOK key = true/\dead = true/\e = .returned (.tuple #[.slice none 0 0,.string ⟨#[]⟩,.int .i64 7]))
theorem sget_any (Z Y : Nat->Prop) (s j d : Nat) (mv : Value) (n : Nat) (D : Dk) (J : Jn) (St0 : St) (key : ByteArray) (w : World) (h : Sto Z Y w s j d mv n D J St0) (hk : key.size<=maxLen) (h6 : (St0.M key).L.length<=6) :
  Calls Tryz.prog 29 #[.pointer (some ⟨s,0,none⟩),.string key] w fun e w'=>SGetEnd (D.life == 0) key (St0.M key) w.heap.size e w'/\Below w.heap.size w w':=by
 obtain ⟨i0,hi,hz0,hz1,hz2⟩:=info_parts infoX
 have HCl : Hid (Calls Tryz.prog 39 #[.pointer (some ⟨s,0,none⟩)] w fun e w'=>e = .returned (.bool false)/\w' = w):=closed_no Y s j _ mv n St0 w h.st
 have HK0 : Hid (Calls Tryz.prog 53 #[.string key] w fun e w'=>e = .returned (.bool (keyOK key))/\w' = w):=isKey_any key w
 have HD : Hid (Calls Tryz.prog 54 #[.pointer (some ⟨d,0,none⟩)] w fun e w'=>e = .returned (.bool (D.life == 0))/\w' = w):=Dead_any Z d D w h.side.dk
 obtain ⟨S,hS⟩ : ∃ S,St0.M key = S:=⟨_,rfl⟩
 obtain ⟨T,hT,hSet,hiff⟩:=h.st.tab.get key
 rw [hS] at hSet hiff h6 ⊢
 obtain ⟨uc,ul,hu,o1,o2,_,_⟩:=hSet.ex
 obtain ⟨a1,k1,rfl⟩:=own_shape o1
 obtain ⟨a2,k2,rfl⟩:=own_shape o2
 have c0 : w.cell? ⟨s,0,none⟩ = some (.pointer (some ⟨d,0,none⟩)):=(h.st.cell 0).trans rfl
 have c5 : w.cell? ⟨s,5,none⟩ = some mv:=(h.st.cell 5).trans rfl
 obtain ⟨there,hth⟩ : ∃ b,(T key).isSome = b:=⟨_,rfl⟩
 have HG : Hid (Calls Tryz.prog 55 #[.pointer (some ⟨s,5,none⟩),.string key] w fun e w'=>e = .returned (.tuple #[.agg #[.slice a1 S.C.length k1,.slice a2 S.L.length k2],.bool there])/\Below w.heap.size w w'):=by
  have:=tGet_any s 5 mv n T key w c5 hT hk
  rw [hu,hth] at this
  exact this
 rw [hth] at hiff
 have hrl : RdS w (.slice a2 S.L.length k2) S.L:=RdS.own o2 rfl
 have hrc : Rd w (.slice a1 S.C.length k1) S.C:=Rd.own o1 rfl
 obtain ⟨dead,hdd⟩ : ∃ b,(D.life == 0) = b:=⟨_,rfl⟩
 rw [hdd] at HD ⊢
 clear hS hT hSet hu hth h c5 hdd
 cases hkk : keyOK key
 ·have HE : Hid (SGetEnd dead key S w.heap.size (.returned (.tuple #[.slice none 0 0,.string ⟨#[]⟩,.int .i64 1])) w):=.inl ⟨fun hh=>by rw [hkk] at hh;exact absurd hh.1 (by simp),_,_,_,rfl,.inl ⟨hkk,rfl,rfl,rfl⟩⟩
  rw [hkk] at HK0
  clear hkk
  go_enter Tryz.func29,Tryz.ntmps29
  go_wp2_with fail
  refine HCl.out.mono ?_
  rintro e w1 ⟨rfl,rfl⟩
  go_wp2_with fail
  refine HK0.out.mono ?_
  rintro e w2 ⟨rfl,rfl⟩
  go_wp2
  go_ret3
  exact ⟨HE.out,Below.refl _ _⟩
 ·have HK : Hid (keyOK key = true):=hkk
  rw [hkk] at HK0
  clear hkk
  go_enter Tryz.func29,Tryz.ntmps29
  go_wp2_with fail
  refine HCl.out.mono ?_
  rintro e w1 ⟨rfl,rfl⟩
  go_wp2_with fail
  refine HK0.out.mono ?_
  rintro e w2 ⟨rfl,rfl⟩
  go_wp2_with fail
  refine HD.out.mono ?_
  rintro e w3 ⟨rfl,rfl⟩
  cases dead
  ·go_wp2_with fail
   refine HG.out.mono ?_
   rintro e w1 ⟨rfl,hb1⟩
   clear HCl HK0 HD HG c0
   obtain ⟨W,hW,hb2,t0,t1,hbX⟩ : ∃ W,(w1.alloc (.cells #[.slice a1 S.C.length k1,.slice a2 S.L.length k2] 117)) = W/\Below w3.heap.size w3 W/\W.cell? ⟨w1.heap.size,0,none⟩ = some (.slice a1 S.C.length k1)/\W.cell? ⟨w1.heap.size,1,none⟩ = some (.slice a2 S.L.length k2)/\Below w1.heap.size w1 W :=
    ⟨_,rfl,hb1.alloc hb1.size _,by simp [go_sem],by simp [go_sem],(Below.refl _ _).alloc (Nat.le_refl _) _⟩
   have hs2:=hb2.size
   have HR1 : Hid (Rd W (.slice a1 S.C.length k1) S.C):=hrc.below hb2
   have HR2 : Hid (∀ j,j < S.L.length->∃ g off,a2 = some ⟨g,off,none⟩/\W.cell? ⟨g,off + j * 3,none⟩ = some (.int .i64 (sb S.L j).n)/\W.cell? ⟨g,off + j * 3 + 1,none⟩ = some (.int .i64 (sb S.L j).c)/\W.cell? ⟨g,off + j * 3 + 2,none⟩ = some (.string (sb S.L j).v)):=by
    intro j hj
    obtain ⟨p,q,e,_,_,hc⟩:=hrl.below hb2
    injection e with e1 e2 e3
    subst e1
    obtain ⟨g,off,ha,hc⟩:=hc (by omega)
    exact ⟨g,off,ha,hc j hj⟩
   clear hrc hrl o1 o2 hb1
   cases there
   ·have hn : S.L = []:=by
     cases hl : S.L with
     | nil=>rfl
     | cons x r=>exact absurd (hiff.2 (by rw [hl];simp)) (by simp)
    have HE : Hid (SGetEnd false key S w3.heap.size (.returned (.tuple #[.slice none 0 0,.string ⟨#[]⟩,.int .i64 8])) W):=.inl ⟨fun hh=>absurd hh.2 (by simp),_,_,_,rfl,.inr (.inl ⟨HK.out,hn,rfl,rfl,rfl⟩)⟩
    clear hn hiff
    go_wp2
    go_ret3
    exact ⟨HE.out,hb2⟩
   have hn : S.L ≠ []:=hiff.1 rfl
   clear hiff
   have HN : Hid (S.L ≠ []):=hn
   have HL6 : Hid (S.L.length<=6):=h6
   have hlen : 0 < S.L.length:=List.length_pos_iff.2 hn
   clear hn h6
   go_upto_region 11 with (fail)
   clear hW
   go_wp2_with fail
   go_loopw [9,40] (fun v i wr=>∃ k : Nat,k<=S.L.length/\i = .int .i64 k/\OwnX wr W.heap.size v (valsS (S.L.take k))/\Below W.heap.size W wr) (fun _ i _=>S.L.length - (intOf i).toNat)
   case atStart=>exact ⟨0,Nat.zero_le _,rfl,World.ownsRow_nil _ _ _ _,Below.refl _ _⟩
   case round =>
    obtain ⟨k,hk,rfl,ho,hb⟩:=hrel
    have hsz:=hb.size
    have d0:=cell_later hb t0
    have d1:=cell_later hb t1
    obtain ⟨a3,cap3,hu3⟩:=own_shape ho
    subst hu3
    have hL6:=HL6.out
    by_cases hlt : k < S.L.length
    ·obtain ⟨g,off,rfl,hr0,hr1,hr⟩:=HR2.out k hlt
     have q1 : (k : Int) < (S.L.length : Int):=by omega
     have q0 : (0 : Int)<=(k : Int):=by omega
     have e0:=cell_later hb hr
     have e1:=cell_later hb hr0
     have e2:=cell_later hb hr1
     have hlen2 : (valsS (S.L.take k)).length<=k:=by unfold valsS;simp;omega
     have HS : Hid (valsS (S.L.take (k + 1)) = valsS (S.L.take k) ++ [(sb S.L k).v]):=valsS_snoc S.L k hlt
     obtain ⟨x,hx⟩ : ∃ x,(sb S.L k).v = x:=⟨_,rfl⟩
     obtain ⟨xn,hxn⟩ : ∃ x,(sb S.L k).n = x:=⟨_,rfl⟩
     obtain ⟨xc,hxc⟩ : ∃ x,(sb S.L k).c = x:=⟨_,rfl⟩
     rw [hx] at e0 HS
     rw [hxn] at e1
     rw [hxc] at e2
     obtain ⟨U,hU⟩ : ∃ U,valsS (S.L.take k) = U:=⟨_,rfl⟩
     rw [hU] at ho hlen2 HS
     obtain ⟨m,hm⟩ : ∃ m,U.length = m:=⟨_,rfl⟩
     rw [hU]
     unfold OwnX at ho
     rw [hm] at ho hlen2
     rw [hm]
     obtain ⟨W1,hW1,ho1,hb1,g2⟩ : ∃ W1,wr.alloc (.cells #[.int .i64 xn,.int .i64 xc,.string x] 122) = W1/\W1.ownsRow W.heap.size 9 1 (.slice a3 m cap3) m (cellsX U)/\Below W.heap.size W W1/\W1.cell? ⟨wr.heap.size,2,none⟩ = some (.string x) :=
      ⟨_,rfl,ho.alloc _,hb.alloc (by omega) _,by rw [cell_of_row _ _ _ _ _ _ (heap_alloc_new wr _)];rfl⟩
     have hsz1:=hb1.size
     have HB : Hid (Below W.heap.size W W1):=hb1
     clear hr hr0 hr1 hx hxn hxc hU hlen ho hb1 hb
     go_upto_region 14 with (fail)
     clear hW1
     go_wp2_with (first
      | (at_builtin;refine wpList_append_own _ rfl _ _ 34 rfl W.heap.size 9 i0 (.string ByteArray.empty) 1 16 Tryz.underlying34 hi hz0 hz1 hz2 rfl (by decide) _ _ _ rfl (ho1.alloc _) ⟨W1.heap.size,0,none⟩ 1 1 [.string x] rfl rfl (cells_one_new _ _ _) (by simp;rfl) (by unfold maxLen;omega) (by omega) (by simp;omega) ?_))
     intro v' w2 hown' hgrow _
     have hb3 : Below W.heap.size W w2:=(HB.out.alloc (by omega) _).grown hgrow (by simp;omega) (fun q hq=>(ho1.lt q hq).1)
     go_wp2
     go_roundw
     case rel=>exact ⟨k + 1,by omega,by go_num,by unfold OwnX;rw [HS.out,List.length_append,cellsX_snoc,hm];exact hown',hb3⟩
     case measure=>simp [intOf];omega
    ·have he : k = S.L.length:=by omega
     have HE : Hid (valsS (S.L.take k) = valsS S.L):=by show _ = _;rw [he,List.take_length]
     have q1 : ¬ (k : Int) < (S.L.length : Int):=by omega
     have HO : Hid (OwnX wr W.heap.size (.slice a3 (valsS (S.L.take k)).length cap3) (valsS S.L)):=by rw [<- HE.out];exact ho
     have hb4:=hb2.trans (hb.mono hs2)
     have HRR:=HR1.out.below hb
     clear he ho
     go_wp2_with fail
     refine (Encode_f _ _ _ HRR).mono ?_
     rintro e w5 ⟨n5,rfl,hb5⟩
     have hb6:=hb4.trans (hb5.mono hb4.size)
     have HO5 : Hid (OwnX w5 w3.heap.size (.slice a3 (valsS (S.L.take k)).length cap3) (valsS S.L)):=own_base (own_below HO.out hb5) hs2
     clear hb hb2 hb4 hb5 HRR d0 d1 t0 t1
     go_wp2
     go_ret3
     exact ⟨.inl ⟨fun hh=>absurd hh.2 (by simp),_,_,_,rfl,.inr (.inr ⟨HK.out,HN.out,HO5.out,rfl,rfl⟩)⟩,hb6⟩
  ·have HE : Hid (SGetEnd true key S w3.heap.size (.returned (.tuple #[.slice none 0 0,.string ⟨#[]⟩,.int .i64 7])) w3):=.inr ⟨HK.out,rfl,rfl⟩
   go_wp2
   go_ret3
   exact ⟨HE.out,Below.refl _ _⟩
end Go.Proofs.YtilkdeghknjjhaaGreatDoor
namespace Go.Proofs.YtilkdeghknjjhaaGreatDoor
open Go.RowKit M
variable {nd : Int} {ms : List Mt} {m : Mt} {M : ByteArray->Se} {D : Dk} {J : Jn} {S : St} {hd : Nat} {sy : Bool}
theorem bs_byte1 (n : Nat) (h : n < 256) : bs (byte1 n) = [UInt8.ofNat n]:=rfl
theorem bs_szT (t : ByteArray) (h : t.size<=255) : bs (szT t) = szB (bs t):=by
 unfold szT szB
 rw [bs_app,bs_byte1 _ (by omega),bs_len];rfl
theorem bs_encM (m : Mt) (h : m.OK) : bs (encM m) = encB m:=by
 unfold encM encB clkB
 rw [bs_app,bs_app,bs_app,bs_app,bs_szT _ h.k,bs_szT _ h.v,bs_byte1 _ (by split <;> omega)]
 simp only [List.append_assoc]
 split <;> rfl
theorem encM_size (m : Mt) (hk : m.k.size<=255) (hv : m.v.size<=255) : (encM m).size<=1000:=by
 unfold encM
 have h1:=encT_size [(m.node,m.count)]
 have h2:=encT_size m.c
 have h3 : ∀ t : ByteArray,t.size<=255->(szT t).size<=256:=fun t ht=>by unfold szT;rw [ByteArray.size_append];unfold byte1;rw [sz1];omega
 have h4:=h3 m.k hk
 have h5:=h3 m.v hv
 have h6 : ∀ n,(byte1 n).size = 1:=fun n=>rfl
 simp only [ByteArray.size_append,h6]
 omega
noncomputable def stepMt (M : ByteArray->Se) (m : Mt) : ByteArray->Se:=keepM M m.k ⟨(outF (M m.k) m).1,(outF (M m.k) m).2.1⟩
noncomputable def runMt : (ByteArray->Se)->List Mt->(ByteArray->Se)
 | M,[]=>M
 | M,m :: ms=>runMt (stepMt M m) ms
theorem runMt_app : ∀ (a b : List Mt) (M : ByteArray->Se),runMt M (a ++ b) = runMt (runMt M a) b
 | [],b,M=>rfl
 | m :: a,b,M=>runMt_app a b (stepMt M m)
def zM : ByteArray->Se:=fun _=>Se.nil
structure MtAt (nd : Int) (M : ByteArray->Se) (c : Int) (m : Mt) : Prop where
 ok : m.OK
 node : m.node = nd
 count : m.count = c + 1
 key : keyOK m.k = true
 out : (outF (M m.k) m).2.2 = 0
def GoodM (nd : Int) : (ByteArray->Se)->Int->List Mt->Prop
 | _,_,[]=>True
 | M,c,m :: ms=>MtAt nd M c m/\GoodM nd (stepMt M m) (c + 1) ms
theorem good_app : ∀ (a b : List Mt) (M : ByteArray->Se) (c : Int),GoodM nd M c (a ++ b) ↔ GoodM nd M c a/\GoodM nd (runMt M a) (c + a.length) b
 | [],b,M,c=>by simp [GoodM,runMt]
 | m :: a,b,M,c=>by
  show (MtAt nd M c m/\GoodM nd (stepMt M m) (c + 1) (a ++ b)) ↔ (MtAt nd M c m/\GoodM nd (stepMt M m) (c + 1) a)/\GoodM nd (runMt (stepMt M m) a) (c + ((a.length + 1 : Nat) : Int)) b
  rw [good_app a b,show c + 1 + (a.length : Int) = c + ((a.length + 1 : Nat) : Int) by omega]
  exact and_assoc.symm
theorem good_snoc (h : GoodM nd zM 0 ms) (hm : MtAt nd (runMt zM ms) ms.length m) : GoodM nd zM 0 (ms ++ [m]) :=
 (good_app ms [m] zM 0).2 ⟨h,by rw [Int.zero_add];exact ⟨hm,trivial⟩⟩
theorem good_prefix {a b : List Mt} (h : GoodM nd zM 0 b) (hp : a <+: b) : GoodM nd zM 0 a:=by
 obtain ⟨c,rfl⟩:=hp
 exact ((good_app a c zM 0).1 h).1
def Tidy (M : ByteArray->Se) : Prop:=∀ k,(M k).L = []->M k = Se.nil
theorem tidy_keep (h : Tidy M) (k : ByteArray) (S : Se) : Tidy (keepM M k S):=fun x hx=>by
 unfold keepM at hx ⊢
 by_cases e : x = k
 ·subst e
  rw [upd_same] at hx ⊢
  by_cases hl : S.L = []
  ·rw [if_pos hl]
  ·rw [if_neg hl] at hx
   exact absurd hx hl
 ·rw [upd_other _ _ e] at hx ⊢
  exact h x hx
theorem tidy_run : ∀ (ms : List Mt) (M : ByteArray->Se),Tidy M->Tidy (runMt M ms)
 | [],M,h=>h
 | m :: ms,M,h=>tidy_run ms _ (tidy_keep h _ _)
theorem tidy_z (ms : List Mt) : Tidy (runMt zM ms):=tidy_run ms _ fun _ _=>rfl
theorem keep_undo (h : Tidy M) (k : ByteArray) (S : Se) : keepM (keepM M k S) k (M k) = M:=by
 funext x
 unfold keepM
 by_cases e : x = k
 ·subst e
  rw [upd_same]
  by_cases hl : (M x).L = []
  ·rw [if_pos hl,h x hl]
  ·rw [if_neg hl]
 ·rw [upd_other _ _ e,upd_other _ _ e]
structure DI (nd : Int) (D : Dk) (ms : List Mt) (hd : Nat) : Prop where
 wf : D.WF
 good : GoodM nd zM 0 ms
 ex : ∃ k sz cut,JD D ms k sz cut false hd
structure SI (nd : Int) (D : Dk) (J : Jn) (S : St) (ms : List Mt) (hd : Nat) : Prop where
 wf : D.WF
 good : GoodM nd zM 0 ms
 jd : JDJ D ms J false hd
 node : S.node = nd
 M : S.M = runMt zM ms
 cnt : S.cnt = ms.length
 roll : J.roll<=100000
 held : S.held = hd
 hle : hd<=ms.length
 ro : S.ro = false
 sz : J.size<=100000
theorem SI.di (h : SI nd D J S ms hd) : DI nd D ms hd:=⟨h.wf,h.good,_,_,_,h.jd⟩
theorem JD.kf {k sz : Nat} {cut : Bool} (h : JD D ms k sz cut sy hd) : k<=D.files.length:=by
 obtain ⟨a,F,B,T,g1,_⟩:=h
 exact g1.kf
def heldE (every : Int) (n hd : Nat) : Nat:=if every = 0\/(n : Int) + 1 - hd < every then hd else n + 1
theorem jappend_num1 {t : ByteArray} (h : (jappend D J t).1 = true) : 1<=(jappend D J t).2.2.num:=by
 unfold jappend at h ⊢
 cases hn : jneeds J t
 ·rw [if_neg (by simp)]
  rw [jwrite_num]
  unfold jneeds at hn
  simp only [Bool.or_eq_false_iff,decide_eq_false_iff_not] at hn
  omega
 ·rw [hn,if_pos rfl] at h
  rw [if_pos rfl]
  cases hb : (jbegin D J).1
  ·rw [hb,if_neg (by simp)] at h;cases h
  ·rw [if_pos rfl,jwrite_num]
   unfold jbegin at hb ⊢
   cases hs : (jsl D J).1
   ·rw [hs,if_pos rfl] at hb;cases hb
   ·rw [hs,if_neg (by simp)] at hb
    rw [if_neg (by simp)]
    cases hc : (jsl D J).2.creates (fnm (J.num + 1))
    ·rw [hc,if_pos rfl] at hb;cases hb
    ·rw [if_neg (by simp)];show 1<=J.num + 1;omega
theorem jappend_wf (h : JDJ D ms J sy hd) (hw : D.WF) (hbu : D.Bud 3) (hk : J.num < 900000000) (t : ByteArray) (hts : t.size<=1000) : (jappend D J t).2.1.WF:=by
 obtain ⟨b1,b2,b3,b4⟩:=jbegin_jd h hw (hbu.mono (by omega)) (by omega)
 have bw:=jbegin_wf hw 1 hbu J
 have bb:=jbegin_bud hw (k:=1) hbu J
 unfold jappend
 cases hn : jneeds J t
 ·rw [if_neg (by simp)]
  unfold jneeds at hn
  simp only [Bool.or_eq_false_iff,decide_eq_false_iff_not] at hn
  have:=JD.sz_le h (by omega)
  exact jwrite_wf hw (hbu.mono (by omega)) J t (by rw [JD.sizeOf h (by omega)];omega)
 ·rw [if_pos rfl]
  cases hb : (jbegin D J).1
  ·rw [if_neg (by simp)];exact bw
  ·rw [if_pos rfl]
   obtain ⟨e1,e2,e3⟩:=b1 hb
   rw [e3] at e1
   rw [e3]
   exact jwrite_wf bw bb _ t (by rw [JD.sizeOf e1 (by show 1<=J.num + 1;omega)];show 0 + t.size<=_;omega)
inductive DoRes (nd : Int) (D : Dk) (J : Jn) (S : St) (ms : List Mt) (hd : Nat) (m : Mt) : Int × Dk × Jn × St->Prop where
 | full : D.cap - D.bytes < 4000->DoRes nd D J S ms hd m (6,D,J,S)
 | done (D' : Dk) (J' : Jn) (S' : St) : SI nd D' J' S' (ms ++ [m]) (heldE S.every ms.length hd)->D'.failed = D.failed->D'.cap = D.cap->S'.every = S.every->S'.roll = S.roll->DoRes nd D J S ms hd m (0,D',J',S')
 | fail (D' : Dk) (J' : Jn) (S' : St) (ms' : List Mt) : (ms' = ms\/ms' = ms ++ [m])->DI nd D' ms' hd->D.failed < D'.failed->D'.cap = D.cap->S'.M = S.M->S'.cnt = S.cnt->S'.node = S.node->S'.every = S.every->S'.roll = S.roll->S'.ro = S.ro->DoRes nd D J S ms hd m (7,D',J',S')
theorem doF_res {n : Nat} (h : SI nd D J S ms hd) (hb : D.Bud (n + 5)) (hn : 900000000<=n) (hm : MtAt nd S.M S.cnt m) :
  DoRes nd D J S ms hd m (doF D J S m):=by
 have hnum : J.num < 900000000:=by have:=JD.kf h.jd;have:=hb.l;omega
 have hmM : MtAt nd (runMt zM ms) ms.length m:=by rw [<- h.M,<- h.cnt];exact hm
 have hg:=good_snoc h.good hmM
 have hlen : (ms ++ [m]).length = ms.length + 1:=by simp
 have hM2 : keepM S.M m.k ⟨(outF (S.M m.k) m).1,(outF (S.M m.k) m).2.1⟩ = runMt zM (ms ++ [m]):=by
  rw [runMt_app,<- h.M];rfl
 have hun : keepM (keepM S.M m.k ⟨(outF (S.M m.k) m).1,(outF (S.M m.k) m).2.1⟩) m.k (S.M m.k) = S.M:=keep_undo (by rw [h.M];exact tidy_z ms) _ _
 have hct:=hm.count
 unfold doF doG
 rw [if_neg (by rw [hm.out];simp)]
 by_cases hl : D.cap - D.bytes < 4000
 ·rw [if_pos hl];exact .full hl
 ·rw [if_neg hl]
  have hsz:=encM_size m hm.ok.k hm.ok.v
  obtain ⟨a1,a2,a3,a4,a5⟩:=jappend_jd h.jd h.wf (hb.mono (by omega)) hnum h.roll (encM m) m (bs_encM m hm.ok) hm.ok hsz (by omega)
  unfold writeF
  cases hap : (jappend D J (encM m)).1
  ·rw [if_pos rfl]
   obtain ⟨a6,a7⟩:=a2 hap
   unfold doW
   simp only [Bool.false_eq_true,if_false]
   exact .fail _ _ _ ms (.inl rfl) ⟨a5,h.good,_,_,_,a6⟩ a7 a3 hun (by show m.count - 1 = S.cnt;omega) rfl rfl rfl rfl
  ·rw [if_neg (by simp)]
   obtain ⟨a6,a7⟩:=a1 hap
   by_cases he : S.every = 0\/m.count - S.held < S.every
   ·rw [if_pos he]
    unfold doW
    simp only [if_true]
    have hh : heldE S.every ms.length hd = hd:=by
     unfold heldE
     have:=h.cnt;have:=h.held
     rw [if_pos (he.imp (fun h=>h) (fun h=>by omega))]
    exact .done _ _ _ ⟨a5,hg,by rw [hh];exact a6,h.node,hM2,by show m.count = _;rw [hlen];have:=h.cnt;omega,by rw [a4];exact h.roll,by rw [hh];exact h.held,by rw [hh,hlen];have:=h.hle;omega,h.ro,JD.sz_le a6 (jappend_num1 hap)⟩ a7 a3 rfl rfl
   ·rw [if_neg he]
    obtain ⟨s1,s2,s3,s4⟩:=jsync_jd a6 a5
    have hw6:=jsync_wf a5 0 (by have:=jappend_bud h.wf (k:=2) (hb.mono (by omega)) J (encM m);exact this) (jappend D J (encM m)).2.2
    have hh : heldE S.every ms.length hd = ms.length + 1:=by
     unfold heldE
     have:=h.cnt;have:=h.held
     rw [if_neg (fun hx=>he (hx.imp (fun h=>h) (fun h=>by omega)))]
    unfold holdF
    cases hs : (jsync (jappend D J (encM m)).2.1 (jappend D J (encM m)).2.2).1
    ·rw [if_neg (by simp)]
     obtain ⟨s5,s6⟩:=s2 hs
     unfold doW
     simp only [Bool.false_eq_true,if_false]
     exact .fail _ _ _ (ms ++ [m]) (.inr rfl) ⟨hw6,hg,_,_,_,s5⟩ (by omega) (s3.trans a3) hun (by show m.count - 1 = S.cnt;omega) rfl rfl rfl rfl
    ·rw [if_pos rfl]
     obtain ⟨s5,s6⟩:=s1 hs
     unfold doW
     simp only [if_true]
     have hc2 : m.count = ((ms ++ [m]).length : Int):=by rw [hlen];have:=h.cnt;omega
     exact .done _ _ _ ⟨hw6,hg,by rw [hh,<- hlen];exact s5.less,h.node,hM2,hc2,by rw [a4];exact h.roll,by show m.count = _;rw [hh,<- hlen];exact hc2,by rw [hh,hlen];exact Nat.le_refl _,h.ro,JD.sz_le a6 (jappend_num1 hap)⟩ (by omega) (s3.trans a3) rfl rfl
theorem syncF_res (h : SI nd D J S ms hd) (hb : D.Bud 2) :
  ((syncF D J S).1 = 0/\SI nd (syncF D J S).2.1 J (syncF D J S).2.2.2 ms ms.length/\(syncF D J S).2.1.failed = D.failed/\(syncF D J S).2.2.1 = J/\(syncF D J S).2.2.2 = { S with held:=S.cnt }/\(syncF D J S).2.1.cap = D.cap) \/
  ((syncF D J S).1 = 7/\DI nd (syncF D J S).2.1 ms hd/\D.failed < (syncF D J S).2.1.failed/\(syncF D J S).2.2.2 = { S with ro:=true }/\(syncF D J S).2.1.cap = D.cap):=by
 obtain ⟨s1,s2,s3,s4⟩:=jsync_jd h.jd h.wf
 have hw:=jsync_wf h.wf 0 hb J
 cases hs : (jsync D J).1
 ·obtain ⟨s5,s6⟩:=s2 hs
  have hH : holdF D J S = (false,(jsync D J).2,S):=by unfold holdF;rw [if_neg (by rw [hs];simp)]
  have e : syncF D J S = (7,(jsync D J).2,J,{ S with ro:=true }):=by
   unfold syncF;rw [if_neg (by rw [h.ro];simp),hH];rfl
  rw [e]
  exact .inr ⟨rfl,⟨hw,h.good,_,_,_,s5⟩,s6,rfl,s3⟩
 ·obtain ⟨s5,s6⟩:=s1 hs
  have hH : holdF D J S = (true,(jsync D J).2,{ S with held:=S.cnt }):=by unfold holdF;rw [if_pos hs]
  have e : syncF D J S = (0,(jsync D J).2,J,{ S with held:=S.cnt }):=by
   unfold syncF;rw [if_neg (by rw [h.ro];simp),hH];rfl
  rw [e]
  exact .inl ⟨rfl,⟨hw,h.good,s5.less,h.node,h.M,h.cnt,h.roll,h.cnt,Nat.le_refl _,h.ro,h.sz⟩,s6,rfl,rfl,s3⟩
end Go.Proofs.YtilkdeghknjjhaaGreatDoor
namespace Go.Proofs.YtilkdeghknjjhaaGreatDoor
open Go.RowKit M
variable {nd : Int}
noncomputable def runS : St->List Mt->St
 | S,[]=>S
 | S,m :: ms=>runS (redoF S m).2 ms
def okS : St->List Mt->Prop
 | _,[]=>True
 | S,m :: ms=>(redoF S m).1 = true/\okS (redoF S m).2 ms
theorem okS_app : ∀ (a b : List Mt) (S : St),okS S (a ++ b) ↔ okS S a/\okS (runS S a) b
 | [],b,S=>by simp [okS,runS]
 | m :: a,b,S=>by
  show (_/\okS (redoF S m).2 (a ++ b)) ↔ (_/\okS (redoF S m).2 a)/\okS (runS (redoF S m).2 a) b
  rw [okS_app a b]
  exact and_assoc.symm
theorem runS_app : ∀ (a b : List Mt) (S : St),runS S (a ++ b) = runS (runS S a) b
 | [],b,S=>rfl
 | m :: a,b,S=>runS_app a b _
theorem redo_at {S : St} {m : Mt} (h : MtAt nd S.M S.cnt m) : redoF S m = (true,{ S with M:=stepMt S.M m,cnt:=m.count }):=by
 unfold redoF
 rw [if_pos ⟨h.count,h.key,h.out⟩]
 rfl
theorem good_ok : ∀ (ms : List Mt) (S : St),GoodM nd S.M S.cnt ms->okS S ms/\runS S ms = { S with M:=runMt S.M ms,cnt:=S.cnt + ms.length }
 | [],S,_=>⟨trivial,by show S = { S with M:=S.M,cnt:=S.cnt + 0 };rw [Int.add_zero]⟩
 | m :: ms,S,h=>by
  obtain ⟨h1,h2⟩:=h
  have e:=redo_at h1
  have hc:=h1.count
  obtain ⟨i1,i2⟩:=good_ok ms { S with M:=stepMt S.M m,cnt:=m.count } (by show GoodM nd (stepMt S.M m) m.count ms;rw [hc];exact h2)
  refine ⟨⟨by rw [e],by rw [e];exact i1⟩,?_⟩
  show runS (redoF S m).2 ms = _
  rw [e,i2]
  show ({ S with M:=runMt (stepMt S.M m) ms,cnt:=m.count + ms.length } : St) = { S with M:=runMt S.M (m :: ms),cnt:=S.cnt + ((ms.length + 1 : Nat) : Int) }
  rw [hc,show S.cnt + 1 + (ms.length : Int) = S.cnt + ((ms.length + 1 : Nat) : Int) by omega]
  rfl
theorem enc_head (m : Mt) : ∃ b r,encB m = b :: r/\b.toNat = if m.del = true then 2 else 1:=by
 refine ⟨_,_,rfl,?_⟩
 split <;> rfl
theorem mark_at (pre rest : Bs) (m : Mt) : rlen (pre ++ (encB m ++ rest)) ⟨pre.length,false⟩ = (if m.del = true then 2 else 1,⟨pre.length + 1,false⟩):=by
 obtain ⟨b,r,e,hb⟩:=enc_head m
 rw [e,List.cons_append,rlen_at,hb]
theorem tail_short (pre t : Bs) (h : Tail t) (ht : t ≠ []) : ∃ gone : Bool,rlen (pre ++ t) ⟨pre.length,false⟩ = (if gone = true then 2 else 1,⟨pre.length + 1,false⟩)/\(rmut (pre ++ t) ⟨pre.length + 1,false⟩ gone).2.s = true:=by
 rcases h with h | ⟨m,hm,n,hn,rfl⟩
 ·exact absurd h ht
 ·refine ⟨m.del,?_,?_⟩
  ·obtain ⟨b,r,e,hb⟩:=enc_head m
   cases n with
   | zero=>simp at ht
   | succ n =>
    rw [e,List.take_succ_cons,rlen_at,hb]
  ·have h1:=rmut_at pre m [] hm
   rw [List.append_nil] at h1
   have hn0 : 1<=n:=by
    cases n with
    | zero=>simp at ht
    | succ n=>omega
   have h2:=((good_mut m.del).cut (pre ++ encB m) ⟨pre.length + 1,false⟩ (pre.length + n) (by show (rmut _ _ _).2.s = false;rw [h1]) (by show pre.length + 1<=_;omega) (by rw [List.length_append];omega)).2 (by show _ < (rmut _ _ _).2.a;rw [h1];show _ < pre.length + (encB m).length;omega)
   have e : (pre ++ encB m).take (pre.length + n) = pre ++ (encB m).take n:=by
    rw [List.take_append,List.take_of_length_le (by omega),Nat.add_sub_cancel_left]
   rw [e] at h2
   exact h2
end Go.Proofs.YtilkdeghknjjhaaGreatDoor
