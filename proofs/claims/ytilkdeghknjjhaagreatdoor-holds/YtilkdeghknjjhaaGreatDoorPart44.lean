/- A part of the proof. -/
import Derived.Test.YtilkdeghknjjhaaGreatDoorPart42
import Derived.Test.YtilkdeghknjjhaaGreatDoorPart43
import Derived.Test.YtilkdeghknjjhaaGreatDoorPart33
import Derived.Test.YtilkdeghknjjhaaGreatDoorPart39
set_option maxRecDepth 20000
set_option maxHeartbeats 3200000
set_option linter.unusedVariables false
namespace Go.Proofs.YtilkdeghknjjhaaGreatDoor
open Go.RowKit M
theorem clk_one {nd c : Int} (hd : Dot nd c) : Clk [(nd,c)]:=(clk_iff _).2 ⟨by simp,List.pairwise_singleton _ _,fun e he=>by rw [List.mem_singleton.1 he];exact hd⟩
end Go.Proofs.YtilkdeghknjjhaaGreatDoor
namespace Go.Proofs.YtilkdeghknjjhaaGreatDoor
open Go.RowKit M
variable {nd : Int} {n : Nat} {S : St} {D : Dk} {J : Jn} {ms : List Mt}
theorem cov_ctx {c : ByteArray} (h : Dec c.data.toList) (n0 : 0<=nd) (n1 : nd<=15) (hn : n<=1000000000) : covB (clkT c) nd ((n : Int) + 1) = true ↔ ¬ cS (clkT c) nd<=n:=by
 unfold covB
 have h3 : Clk (clkT c):=h.2.2
 constructor
 ·intro hh
  split at hh
  ·rename_i h2;omega
  ·cases hh
 ·intro hh
  rw [if_pos ⟨h3,⟨n0,n1,by omega,by omega⟩,by omega⟩]
theorem mutF_doc {k v c : ByteArray} (hnode : S.node = nd) (hcnt : S.cnt = n) (n0 : 0<=nd) (n1 : nd<=15) (hn : n<=1000000000) :
  (putOK k v = false/\(mutF S k v c).2 = 1)\/(putOK k v = true/\¬ CtxOK nd n c/\(mutF S k v c).2 = 2)\/(putOK k v = true/\CtxOK nd n c/\S.ro = true/\(mutF S k v c).2 = 4) \/
  (putOK k v = true/\CtxOK nd n c/\S.ro = false/\mutF S k v c = (⟨false,nd,(n : Int) + 1,k,clkT c,v⟩,0)):=by
 have hp : putOK k v = false ↔ keyOK k = false\/200 < v.size:=by
  unfold putOK
  cases keyOK k <;> simp
 unfold mutF
 by_cases h1 : keyOK k = false\/200 < v.size
 ·rw [if_pos h1];exact .inl ⟨hp.2 h1,rfl⟩
 ·rw [if_neg h1]
  have hp1 : putOK k v = true:=by
   cases h : putOK k v
   ·exact absurd (hp.1 h) h1
   ·rfl
  by_cases hd : Dec c.data.toList
  ·have hN : decN (bs c) = 0:=by
    by_cases h : decN (bs c) = 0
    ·exact h
    ·exact absurd hd ((decN_iff c).1 h)
   have hC:=decC_eq hd
   rw [hN,hC,hnode,hcnt]
   by_cases hc : cS (clkT c) nd<=n
   ·have h2 : ¬ ((0 : Int) ≠ 0\/covB (clkT c) nd ((n : Int) + 1) = true):=fun h=>by
     rcases h with h | h
     ·exact h rfl
     ·exact (cov_ctx hd n0 n1 hn).1 h hc
    rw [if_neg h2]
    by_cases hr : S.ro = true
    ·rw [if_pos hr];exact .inr (.inr (.inl ⟨hp1,⟨hd,hc⟩,hr,rfl⟩))
    ·rw [if_neg hr];exact .inr (.inr (.inr ⟨hp1,⟨hd,hc⟩,by simpa using hr,rfl⟩))
   ·have h2 : ((0 : Int) ≠ 0\/covB (clkT c) nd ((n : Int) + 1) = true):=.inr ((cov_ctx hd n0 n1 hn).2 hc)
    rw [if_pos h2]
    exact .inr (.inl ⟨hp1,fun h=>hc h.2,rfl⟩)
  ·have h2 : (decN (bs c) ≠ 0\/covB (decC (bs c)) S.node (S.cnt + 1) = true):=.inl ((decN_iff c).2 hd)
   rw [if_pos h2]
   exact .inr (.inl ⟨hp1,fun h=>hd h.1,rfl⟩)
theorem stopF_no {e : Int} (h : e ≠ 7) : stopF (e,D,J,S) = (e,D,J,S):=by unfold stopF;rw [if_neg h]
theorem doF_err {m : Mt} (h : (outF (S.M m.k) m).2.2 ≠ 0) : doF D J S m = ((outF (S.M m.k) m).2.2,D,J,S):=by unfold doF doG;rw [if_pos h]
structure Doc (nd : Int) (S : St) (ms : List Mt) : Prop where
 node : S.node = nd
 cnt : S.cnt = ms.length
 M : S.M = runMt zM ms
 good : GoodM nd zM 0 ms
 n0 : 0<=nd
 n1 : nd<=15
 len : ms.length<=1000000000
theorem Doc.at (h : Doc nd S ms) (k : ByteArray) : S.M k = ofM nd (ms.map Mt.mu) k:=by rw [h.M];exact run_of nd _ ms rfl h.good k
theorem ctx_clk {c : ByteArray} (h : CtxOK nd n c) : Clk (clkT c):=h.1.2.2
theorem mt_ok {k c v : ByteArray} (n0 : 0<=nd) (n1 : nd<=15) (hl : ms.length<=1000000000) (hk : keyOK k = true) (hv : v.size<=200) (hc : CtxOK nd ms.length c) (d : Bool) : (⟨d,nd,(ms.length : Int) + 1,k,clkT c,v⟩ : Mt).OK:=by
 have hks : k.size<=40:=by unfold keyOK at hk;simp at hk;omega
 exact ⟨clk_one ⟨n0,n1,by show (1 : Int)<=(ms.length : Int) + 1;omega,by show (ms.length : Int) + 1<=(4611686018427387904 : Int);omega⟩,ctx_clk hc,by show k.size<=255;omega,by show v.size<=255;omega⟩
theorem put_doc {k v c : ByteArray} (h : Doc nd S ms) :
  (putE nd (ms.map Mt.mu) k v c S.ro ≠ 0/\putE nd (ms.map Mt.mu) k v c S.ro ≠ 7/\putF D J S k v c = (putE nd (ms.map Mt.mu) k v c S.ro,D,J,S)) \/
  (putE nd (ms.map Mt.mu) k v c S.ro = 0/\S.ro = false/\MtAt nd S.M S.cnt ⟨false,nd,(ms.length : Int) + 1,k,clkT c,v⟩/\putF D J S k v c = stopF (doF D J S ⟨false,nd,(ms.length : Int) + 1,k,clkT c,v⟩)):=by
 have hlm : (ms.map Mt.mu).length = ms.length:=by simp
 unfold putE putF
 rw [hlm]
 rcases mutF_doc (k:=k) (v:=v) (c:=c) h.node h.cnt h.n0 h.n1 h.len with ⟨h1,h2⟩ | ⟨h1,h3,h2⟩ | ⟨h1,h3,h4,h2⟩ | ⟨h1,h3,h4,h2⟩
 ·rw [if_pos h1,if_neg (by rw [h2];decide),h2,stopF_no (by decide)]
  exact .inl ⟨by decide,by decide,rfl⟩
 ·rw [if_neg (by rw [h1];decide),if_pos h3,if_neg (by rw [h2];decide),h2,stopF_no (by decide)]
  exact .inl ⟨by decide,by decide,rfl⟩
 ·rw [if_neg (by rw [h1];decide),if_neg (fun hh=>hh h3),if_pos h4,if_neg (by rw [h2];decide),h2,stopF_no (by decide)]
  exact .inl ⟨by decide,by decide,rfl⟩
 ·rw [if_neg (by rw [h1];decide),if_neg (fun hh=>hh h3),if_neg (by rw [h4];decide),h2,if_pos rfl]
  have hpk : keyOK k = true/\v.size<=200:=by unfold putOK at h1;simpa using h1
  have ho : outF (S.M k) ⟨false,nd,(ms.length : Int) + 1,k,clkT c,v⟩ = updF (ofM nd (ms.map Mt.mu) k).C (clkT c) (ofM nd (ms.map Mt.mu) k).L nd ((ms.length : Int) + 1) v:=by
   unfold outF
   rw [if_neg (by simp),h.at k]
  by_cases he : (updF (ofM nd (ms.map Mt.mu) k).C (clkT c) (ofM nd (ms.map Mt.mu) k).L nd ((ms.length : Int) + 1) v).2.2 = 0
  ·refine .inr ⟨he,h4,⟨mt_ok h.n0 h.n1 h.len hpk.1 hpk.2 h3 false,rfl,by show (ms.length : Int) + 1 = S.cnt + 1;rw [h.cnt],hpk.1,?_⟩,rfl⟩
   show (outF (S.M k) ⟨false,nd,(ms.length : Int) + 1,k,clkT c,v⟩).2.2 = 0
   rw [ho];exact he
  ·have hd : (outF (S.M (⟨false,nd,(ms.length : Int) + 1,k,clkT c,v⟩ : Mt).k) ⟨false,nd,(ms.length : Int) + 1,k,clkT c,v⟩).2.2 ≠ 0:=by
    show (outF (S.M k) ⟨false,nd,(ms.length : Int) + 1,k,clkT c,v⟩).2.2 ≠ 0
    rw [ho];exact he
   have e7 : (updF (ofM nd (ms.map Mt.mu) k).C (clkT c) (ofM nd (ms.map Mt.mu) k).L nd ((ms.length : Int) + 1) v).2.2 ≠ 7:=by
    rcases @upd_err (ofM nd (ms.map Mt.mu) k).C (clkT c) (ofM nd (ms.map Mt.mu) k).L nd ((ms.length : Int) + 1) v with h | h | h <;> rw [h] <;> decide
   rw [doF_err hd]
   simp only [ho]
   rw [stopF_no e7]
   exact .inl ⟨he,e7,rfl⟩
theorem seen_cov {c : List (Int × Int)} {L : List Sb} (hc : Clk c) (hd : Dots L) : seenTo c L L.length = anyCov c L:=by
 have h1 : ∀ x ∈ L,covB c x.n x.c = decide (x.c<=cS c x.n):=fun x hx=>by
  unfold covB
  by_cases h : x.c<=cS c x.n
  ·rw [if_pos ⟨hc,hd x hx,h⟩];simp [h]
  ·rw [if_neg (fun hh=>h hh.2.2)];simp [h]
 have h2 : ∀ j,j<=L.length->seenTo c L j = (L.take j).any fun x=>covB c x.n x.c:=by
  intro j
  induction j with
  | zero=>intro _;simp [seenTo]
  | succ j ih =>
   intro hj
   have hlt : j < L.length:=by omega
   have hs : sb L j = L[j]:=by simp [sb,List.getD,List.getElem?_eq_getElem hlt]
   rw [List.take_succ_eq_append_getElem hlt,List.any_append,<- ih (by omega)]
   show (seenTo c L j || decide ((sb L j).c<=cS c (sb L j).n)) = _
   rw [hs,<- h1 _ (List.getElem_mem hlt)]
   simp
 rw [h2 _ (Nat.le_refl _),List.take_length]
 rfl
theorem del_doc {k c : ByteArray} (h : Doc nd S ms) :
  (delE nd (ms.map Mt.mu) k c S.ro ≠ (true,0)/\(delE nd (ms.map Mt.mu) k c S.ro).2 ≠ 7/\delF D J S k c = ((delE nd (ms.map Mt.mu) k c S.ro).2,D,J,S)) \/
  (delE nd (ms.map Mt.mu) k c S.ro = (true,0)/\S.ro = false/\MtAt nd S.M S.cnt ⟨true,nd,(ms.length : Int) + 1,k,clkT c,⟨#[]⟩⟩/\delF D J S k c = stopF (doF D J S ⟨true,nd,(ms.length : Int) + 1,k,clkT c,⟨#[]⟩⟩)):=by
 have hlm : (ms.map Mt.mu).length = ms.length:=by simp
 have hpk : putOK k ⟨#[]⟩ = keyOK k:=by unfold putOK;simp [ByteArray.size]
 unfold delE delF
 rw [hlm,<- hpk]
 rcases mutF_doc (k:=k) (v:=⟨#[]⟩) (c:=c) h.node h.cnt h.n0 h.n1 h.len with ⟨h1,h2⟩ | ⟨h1,h3,h2⟩ | ⟨h1,h3,h4,h2⟩ | ⟨h1,h3,h4,h2⟩
 ·rw [if_pos h1,if_neg (by rw [h2];decide),h2,stopF_no (by decide)]
  exact .inl ⟨by decide,by decide,rfl⟩
 ·rw [if_neg (by rw [h1];decide),if_pos h3,if_neg (by rw [h2];decide),h2,stopF_no (by decide)]
  exact .inl ⟨by decide,by decide,rfl⟩
 ·rw [if_neg (by rw [h1];decide),if_neg (fun hh=>hh h3),if_pos h4,if_neg (by rw [h2];decide),h2,stopF_no (by decide)]
  exact .inl ⟨by decide,by decide,rfl⟩
 ·rw [if_neg (by rw [h1];decide),if_neg (fun hh=>hh h3),if_neg (by rw [h4];decide),h2,if_pos rfl]
  have hk : keyOK k = true:=by rw [<- hpk];exact h1
  have hS:=h.at k
  have hsn : seenTo (clkT c) (ofM nd (ms.map Mt.mu) k).L (ofM nd (ms.map Mt.mu) k).L.length = anyCov (clkT c) (S.M k).L:=by
   rw [hS];exact seen_cov (ctx_clk h3) (ofTo_dots _ _ _ _)
  rw [hsn]
  cases ha : anyCov (clkT c) (S.M k).L
  ·rw [if_pos rfl,if_neg (by simp),stopF_no (by decide)]
   exact .inl ⟨by decide,by decide,rfl⟩
  ·rw [if_neg (by decide),if_pos rfl]
   have ho : outF (S.M k) ⟨true,nd,(ms.length : Int) + 1,k,clkT c,⟨#[]⟩⟩ = disF (ofM nd (ms.map Mt.mu) k).C (clkT c) (ofM nd (ms.map Mt.mu) k).L:=by
    unfold outF
    rw [if_pos rfl,hS]
   by_cases he : (disF (ofM nd (ms.map Mt.mu) k).C (clkT c) (ofM nd (ms.map Mt.mu) k).L).2.2 = 0
   ·refine .inr ⟨by rw [he],h4,⟨mt_ok h.n0 h.n1 h.len hk (by simp [ByteArray.size]) h3 true,rfl,by show (ms.length : Int) + 1 = S.cnt + 1;rw [h.cnt],hk,?_⟩,rfl⟩
    show (outF (S.M k) ⟨true,nd,(ms.length : Int) + 1,k,clkT c,⟨#[]⟩⟩).2.2 = 0
    rw [ho];exact he
   ·have hd : (outF (S.M (⟨true,nd,(ms.length : Int) + 1,k,clkT c,⟨#[]⟩⟩ : Mt).k) ⟨true,nd,(ms.length : Int) + 1,k,clkT c,⟨#[]⟩⟩).2.2 ≠ 0:=by
     show (outF (S.M k) ⟨true,nd,(ms.length : Int) + 1,k,clkT c,⟨#[]⟩⟩).2.2 ≠ 0
     rw [ho];exact he
    have e7 : (disF (ofM nd (ms.map Mt.mu) k).C (clkT c) (ofM nd (ms.map Mt.mu) k).L).2.2 ≠ 7:=by
     rcases @dis_err (ofM nd (ms.map Mt.mu) k).C (clkT c) (ofM nd (ms.map Mt.mu) k).L with h | h | h <;> rw [h] <;> decide
    have hdo : doF D J S { (⟨false,nd,(ms.length : Int) + 1,k,clkT c,⟨#[]⟩⟩ : Mt) with del:=true } = ((outF (S.M k) ⟨true,nd,(ms.length : Int) + 1,k,clkT c,⟨#[]⟩⟩).2.2,D,J,S):=doF_err hd
    rw [hdo,ho,stopF_no e7]
    exact .inl ⟨fun hh=>he (by simpa using hh),e7,rfl⟩
theorem outM_len (node : Int) (S : Se) (i : Nat) (x : Mu) : (outM node S i x).1.length<=8/\(outM node S i x).2.1.length<=6:=by
 unfold outM
 split
 ·obtain ⟨C,L,e,h⟩:=dis_ex S.C x.c S.L
  rw [disF_eq h];exact h.len
 ·obtain ⟨C,L,e,h⟩:=upd_ex S.C x.c S.L node ((i : Int) + 1) x.v
  rw [updF_eq h];exact h.len
theorem ofTo_len (node : Int) (H : List Mu) (key : ByteArray) : ∀ i,(ofTo node H key i).C.length<=8/\(ofTo node H key i).L.length<=6
 | 0=>⟨by simp [ofTo,Se.nil],by simp [ofTo,Se.nil]⟩
 | i + 1=>by
  unfold ofTo
  split
  ·unfold stepM
   split
   ·exact ⟨by simp [Se.nil],by simp [Se.nil]⟩
   ·exact outM_len _ _ _ _
  ·exact ofTo_len node H key i
theorem Doc.l6 (h : Doc nd S ms) (k : ByteArray) : (S.M k).L.length<=6:=by rw [h.at k];exact (ofTo_len _ _ _ _).2
end Go.Proofs.YtilkdeghknjjhaaGreatDoor
namespace Go.Proofs.YtilkdeghknjjhaaGreatDoor
open Go.RowKit M
theorem infoSl : (Tryz.prog.info? 34).map (fun i=>(i.zero,i.size,i.bytes)) = some (some (.slice none 0 0),1,24):=by kernel_rfl
theorem sep_of {w : World} {Z : Nat->Prop} {z x : Value} {m mk : ByteArray} {N : Nat} (h : AllX w z m) (hz : InZ Z z) (hx : InZ (fun k=>¬ Z k) x) : Sep z m mk x N:=by
 obtain ⟨a,n,cap,rfl,_,hc⟩:=h
 refine ⟨a,n,cap,rfl,?_⟩
 by_cases hn : n = 0
 ·exact .inl hn
 ·obtain ⟨g,cs,rfl,_⟩:=hc (by omega)
  exact .inr (.inl fun hh=>hx g (hh.symm.trans rfl) (hz g rfl))
def KeepEnd (Z : Nat->Prop) (p : Nat) (s0 s1 : Value) (l m : Nat) (e : Ending) (w' : World) : Prop :=
 e = .returned (.tuple #[])/\∃ L M v u,WorldIn Z w' p s0 s1 L M v u/\L.length = l/\M.length = m
theorem wkeep_any (Z Y : Nat->Prop) (p B : Nat) (s0 s1 : Value) (L M : List Value) (v u x : Value) (xs : List ByteArray) (w : World) (h : WorldIn Z w p s0 s1 L M v u) (hl : L.length<=20000000000) (hlm : M.length = 3 * L.length)
  (hx : OwnX w B x xs) (hxl : xs.length<=1000000) (hxz : InZ (fun k=>¬ Z k) x) (hZ : ∀ k,Z k->k < w.heap.size) (hZY : ∀ k,Z k->Y k) (hxY : InZ Y x) (hY : Opn Y w) :
  Calls Tryz.prog 107 #[.pointer (some ⟨p,0,none⟩),x] w fun e w'=>KeepEnd Y p s0 s1 (L.length + 1) (M.length + 3) e w'/\Tr Y w w':=by
 obtain ⟨i0,hi,hz0,hz1,hz2⟩:=info_parts infoSl
 obtain ⟨j0,hj,hj0,hj1,hj2⟩:=info_parts infoX
 obtain ⟨a1,q1,hv1,_,_,_⟩:=own_cells h.rl
 obtain ⟨a2,q2,hv2,_,_,_⟩:=own_cells h.rm
 obtain ⟨ax,qx,hxv,hnx,hcx,hX⟩:=own_cells hx
 subst hv1
 subst hv2
 subst hxv
 have c2 : w.cell? ⟨p,2,none⟩ = some (.slice a1 L.length q1):=by rw [cell_of_row _ _ _ _ _ _ h.hp];rfl
 have hl1 : (L.length : Int)<=20000000000:=by omega
 have hx1 : (xs.length : Int)<=1000000:=by omega
 have HW : Hid (WorldIn Z w p s0 s1 L M (.slice a1 L.length q1) (.slice a2 M.length q2)):=h
 have HMk : Hid (∀ w',Calls Tryz.prog 68 #[.int .i64 ((L.length : Int) + 1)] w' fun e w''=>e = .returned (.string (markF ((L.length : Int) + 1)))/\Below w'.heap.size w' w'') :=
  fun w'=>mark_any _ w' (by omega) (by omega)
 obtain ⟨mk,hmk⟩ : ∃ mk,markF ((L.length : Int) + 1) = mk:=⟨_,rfl⟩
 have HK : Hid (markF ((L.length : Int) + 1) = mk):=hmk
 rw [hmk] at HMk
 have HLM : Hid (M.length = 3 * L.length):=hlm
 have hm1 : (M.length : Int)<=60000000000:=by omega
 clear h hmk hlm
 go_enter Tryz.func107,Tryz.ntmps107
 go_wp2_with fail
 refine (HMk.out w).mono ?_
 rintro e w1 ⟨rfl,hb1⟩
 have HX1 : Hid (w1.ownsRow B 9 1 (.slice ax xs.length qx) xs.length (cellsX xs)):=own_below hx hb1
 have HW1 : Hid (WorldIn Z w1 p s0 s1 L M (.slice a1 L.length q1) (.slice a2 M.length q2)):=HW.out.below hb1
 have HT1 : Hid (Tr Y w w1):=below_tr hb1 Y
 have HY1 : Hid (Opn Y w1):=hY.tr HT1.out
 clear hb1 c2 hx HW HMk
 go_wp2_with fail
 go_loopw [5] (fun i wr=>∃ (k : Nat) (ys : List Value),k<=xs.length/\i = .int .i64 k/\Hid (∀ j,j < k->ys[j]? = some (.string mk))/\wr.ownsRow B 9 1 (.slice ax xs.length qx) xs.length ys/\Tr (fun b=>(Value.slice ax xs.length qx).ownBlock = some b) w1 wr/\wr.heap.size = w1.heap.size) (fun i _=>xs.length - (intOf i).toNat)
 case atStart=>exact ⟨0,cellsX xs,Nat.zero_le _,rfl,fun j h=>absurd h (Nat.not_lt_zero j),HX1.out,Tr.refl _ _,rfl⟩
 case round =>
  obtain ⟨k,ys,hk,rfl,hmm,ho,ht,hse⟩:=hrel
  by_cases hlt : k < xs.length
  ·obtain ⟨_,_,hvv,_,_,hO⟩:=own_cells ho
   injection hvv with hva _ _
   obtain ⟨g,hag,_,hr⟩:=hO (by omega)
   rw [hag] at hva
   subst hva
   obtain ⟨y,hy⟩ : ∃ y,ys[k]? = some y:=⟨_,List.getElem?_eq_getElem (by have:=ho.1;omega)⟩
   have e1:=hr k y hy
   obtain ⟨cs,hgh⟩:=own_heap ho g rfl
   have z1 : wr.frozen? ⟨g,k,none⟩ = false:=frozen_of_row _ _ _ _ _ hgh
   have k0 : (0 : Int)<=(k : Int):=by omega
   have k1 : (k : Int) < (xs.length : Int):=by omega
   have HO2 : Hid ((wr.setCell ⟨g,k,none⟩ (.string mk)).ownsRow B 9 1 (.slice (some ⟨g,0,none⟩) xs.length qx) xs.length (ys.set k (.string mk))):=own_setOwn ho (by omega)
   have HT2 : Hid (Tr (fun b=>(Value.slice (some ⟨g,0,none⟩) xs.length qx).ownBlock = some b) w1 (wr.setCell ⟨g,k,none⟩ (.string mk))):=ht.setCell (by rfl) _
   have hyl : k < ys.length:=by have:=ho.1;omega
   clear hO hr hy hgh ho ht hag hX
   go_wp2_with fail
   go_roundw
   case rel=>exact ⟨k + 1,_,by omega,by go_num,fun j hj=>by
    by_cases e : k = j
    ·subst e;rw [List.getElem?_set_self hyl]
    ·rw [List.getElem?_set_ne e];exact hmm.out j (by omega),HO2.out,HT2.out,by simp [World.setCell,hse]⟩
   case measure=>simp [intOf];omega
  ·have hkx : k = xs.length:=by omega
   have k1 : ¬ (k : Int) < (xs.length : Int):=by omega
   have HM : Hid (∀ j,j < xs.length->ys[j]? = some (.string mk)):=by rw [<- hkx];exact hmm
   have HOx : Hid (wr.ownsRow B 9 1 (.slice ax xs.length qx) xs.length ys):=ho
   have HAx : Hid (AllX wr (.slice ax xs.length qx) mk):=AllX.own ho HM.out rfl (own_off ho) (Nat.le_refl _) (by omega)
   have HSL : Hid (∀ i,i < L.length->Sep (vl L i) (markF ((i : Int) + 1)) mk (.slice ax xs.length qx) xs.length):=fun i hi=>sep_of (HW1.out.al i hi).1 (HW1.out.al i hi).2 hxz
   have HSM : Hid (∀ i,i < M.length->Sep (vl M i) (markF ((i : Int) / 3 + 1)) mk (.slice ax xs.length qx) xs.length):=fun i hi=>sep_of (HW1.out.am i hi).1 (HW1.out.am i hi).2 hxz
   have HWr : Hid (WorldIn Y wr p s0 s1 L M (.slice a1 L.length q1) (.slice a2 M.length q2)):=(HW1.out.tr ht (fun b hb he=>hxz b he hb)).mono hZY
   have HTr : Hid (Tr Y w wr):=HT1.out.trans (ht.mono (fun b _ he=>hxY b he))
   have HYr : Hid (Opn Y wr):=hY.tr HTr.out
   have hrl:=HWr.out.rl
   have c2 : wr.cell? ⟨p,2,none⟩ = some (.slice a1 L.length q1):=by rw [cell_of_row _ _ _ _ _ _ HWr.out.hp];rfl
   clear hmm ho ht hse hkx HX1 HW1 HT1 HY1 hX
   go_upto_region 6 with (first
    | (at_builtin;refine wpList_append_keeps rfl _ _ 72 rfl 0 34 i0 (.slice none 0 0) 1 24 Tryz.underlying72 hi hz0 hz1 hz2 rfl (by decide) _ _ _ rfl (hrl.alloc _) ⟨wr.heap.size,0,none⟩ 1 1 [.slice ax xs.length qx] rfl rfl (by decide) (cells_one_new _ _ _) (by simp;rfl) (by omega) (by omega) (by omega) ?_))
   intro v3 w3 hown _ hgrow hv3
   obtain ⟨hWB,hp3⟩:=HWr.out.growL HYr.out (by rw [HK.out];exact HAx.out) hxY (fun k hk=>(HOx.out.lt k hk).2) hgrow hown (by simpa using hv3)
   have k2 : w3.cell? ⟨p,2,none⟩ = some (.slice a1 L.length q1):=by rw [cell_of_row _ _ _ _ _ _ hp3];rfl
   have fz3 : ∀ o,w3.frozen? ⟨p,o,none⟩ = false:=fun o=>frozen_of_row _ _ _ _ _ hp3
   have hxA:=HOx.out.alloc (.cells #[.slice ax xs.length qx] 34)
   have hrA:=hrl.alloc (.cells #[.slice ax xs.length qx] 34)
   have HOx5 : Hid ((w3.setCell ⟨p,2,none⟩ v3).ownsRow B 9 1 (.slice ax xs.length qx) xs.length ys):=own_setCell (own_grown hxA hgrow (own_apart' hxA hrA (by decide))) hp3 (by decide)
   have HTr5 : Hid (Tr Y w (w3.setCell ⟨p,2,none⟩ v3)):=((HTr.out.alloc _).grown hgrow (fun k hk _=>HWr.out.zl k hk)).setCell HWr.out.zp _
   have HSL5 : Hid (∀ i,i < (L ++ [Value.slice ax xs.length qx]).length->Sep (vl (L ++ [Value.slice ax xs.length qx]) i) (markF ((i : Int) + 1)) mk (.slice ax xs.length qx) xs.length):=by
    intro i hi
    rcases Nat.lt_or_ge i L.length with hlt | hge
    ·rw [vl_append_lt L _ i hlt];exact HSL.out i hlt
    ·have : i = L.length:=by simp at hi;omega
     subst this
     rw [vl_append_eq,HK.out]
     exact ⟨_,_,_,rfl,.inr (.inr ⟨rfl,Nat.le_refl _,own_off HOx.out⟩)⟩
   obtain ⟨a3,q3,hv3s,_,_,_⟩:=own_cells hown
   subst hv3s
   clear hgrow hown hv3 hp3 hrl hrA hxA c2 HOx HAx HSL HTr HWr HYr
   go_upto_region 6 with (fail)
   obtain ⟨W5,hW5,HWB,HO5,HT5,hsz5⟩ : ∃ W5,(w3.setCell ⟨p,2,none⟩ (.slice a3 (L.length + 1) q3)) = W5/\Hid (WorldIn Y W5 p s0 s1 (L ++ [Value.slice ax xs.length qx]) M (.slice a3 (L.length + 1) q3) (.slice a2 M.length q2))/\Hid (W5.ownsRow B 9 1 (.slice ax xs.length qx) xs.length ys)/\Hid (Tr Y w W5)/\True :=
    ⟨_,rfl,hWB,HOx5,HTr5,trivial⟩
   rw [hW5]
   have hL5 : (L ++ [Value.slice ax xs.length qx]).length = L.length + 1:=by simp
   obtain ⟨L5,hL⟩ : ∃ L5,L ++ [Value.slice ax xs.length qx] = L5:=⟨_,rfl⟩
   rw [hL] at HWB HSL5 hL5
   have HL5 : Hid (L5.length = L.length + 1):=hL5
   clear hW5 hWB HOx5 HTr5 k2 fz3 hL hL5 hsz5
   go_wp2_with fail
   go_loopw [6,7] (fun y i wx=>∃ (k : Nat) (zs : List Value) (M5 : List Value) (u5 : Value),k<=3/\i = .int .i64 k/\Hid (M5.length = M.length + k)/\wx.ownsRow 0 9 1 y (xs.length + k) zs/\Hid (∀ j,j < xs.length + k->zs[j]? = some (.string mk))/\Hid (InZ Y y)/\Hid (WorldIn Y wx p s0 s1 L5 M5 (.slice a3 (L.length + 1) q3) u5) /\
    Hid (∀ i,i < L5.length->Sep (vl L5 i) (markF ((i : Int) + 1)) mk y (xs.length + k))/\Hid (∀ i,i < M5.length->Sep (vl M5 i) (markF ((i : Int) / 3 + 1)) mk y (xs.length + k))/\Hid (Tr Y w wx)) (fun _ i _=>3 - (intOf i).toNat)
   case atStart=>exact ⟨0,ys,M,_,by omega,rfl,rfl,own_base HO5.out (Nat.zero_le _),HM,hxY,HWB,HSL5,HSM,HT5⟩
   case round =>
    obtain ⟨k,zs,M5,u5,hk,rfl,hml,ho,hm,hzy,hw5,hsl,hsm,ht⟩:=hrel
    obtain ⟨ay,qy,hys,_,_,_⟩:=own_cells ho
    subst hys
    have hos:=ho.1
    by_cases hlt : k < 3
    ·have k1 : (k : Int) < 3:=by omega
     have hkb : xs.length + k + 1<=1000010:=by omega
     obtain ⟨N,hN⟩ : ∃ N,xs.length + k = N:=⟨_,rfl⟩
     rw [hN] at ho hkb hos hm hsl hsm
     rw [hN]
     have hNk : Hid (xs.length + k = N):=hN
     have hzl : zs.length = N:=by omega
     have hzy : Hid (InZ Y (.slice ay N qy)):=fun b hb=>hzy.out b (by cases ay <;> exact hb)
     clear hN
     go_upto_region 11 with (first
      | (at_builtin;refine wpList_append_keeps rfl _ _ 34 rfl 0 9 j0 (.string ByteArray.empty) 1 16 Tryz.underlying34 hj hj0 hj1 hj2 rfl (by decide) _ _ _ rfl (ho.alloc _) ⟨wr.heap.size,0,none⟩ 1 1 [.string mk] rfl rfl (by decide) (cells_one_new _ _ _) (by simp;rfl) (by omega) (by omega) (by omega) ?_))
     intro v6 w6 hown hkeep hgrow hv6
     have hvv : v6.ownBlock = (Value.slice ay N qy).ownBlock\/∀ b,v6.ownBlock = some b->wr.heap.size<=b:=by
      rcases hv6 with e | e
      ·exact .inl e
      ·exact .inr fun b hb=>by have:=e b hb;omega
     have HW6 : Hid (WorldIn Y w6 p s0 s1 L5 M5 (.slice a3 (L.length + 1) q3) u5):=hw5.out.app hsl.out hsm.out hgrow ho hkeep hm.out (by omega)
     have hmm : ∀ j,j < N + 1->(zs ++ [Value.string mk])[j]? = some (.string mk):=by
      intro j hj
      rcases Nat.lt_or_ge j N with h | h
      ·rw [List.getElem?_append_left (by omega)];exact hm.out j h
      ·have : j = zs.length:=by omega
       subst this;simp
     have HZ6 : Hid (InZ Y v6):=by
      intro b hb
      rcases hvv with e | e
      ·exact hzy.out b (e ▸ hb)
      ·exact (hY.tr ht.out) b (e b hb)
     have HL6 : Hid (∀ i,i < L5.length->Sep (vl L5 i) (markF ((i : Int) + 1)) mk v6 (N + 1)):=fun i hi=>(hsl.out i hi).next (hw5.out.al i hi).1 hvv
     have HM6 : Hid (∀ i,i < M5.length->Sep (vl M5 i) (markF ((i : Int) / 3 + 1)) mk v6 (N + 1)):=fun i hi=>(hsm.out i hi).next (hw5.out.am i hi).1 hvv
     have HT6 : Hid (Tr Y w w6):=(ht.out.alloc _).grown hgrow (fun b hb _=>hzy.out b hb)
     obtain ⟨a6,q6,hv6s,_,_,_⟩:=own_cells hown
     subst hv6s
     have HO6 : Hid (w6.ownsRow 0 9 1 (.slice a6 (N + 1) q6) (N + 1) (zs ++ [.string mk])):=hown
     have HA6 : Hid (AllX w6 (.slice a6 (N + 1) q6) mk):=AllX.own hown hmm rfl (own_off hown) (Nat.le_refl _) (by omega)
     have HMM : Hid (∀ j,j < N + 1->(zs ++ [Value.string mk])[j]? = some (.string mk)):=hmm
     obtain ⟨a7,q7,hu7,_,_,_⟩:=own_cells HW6.out.rm
     subst hu7
     have hrm:=HW6.out.rm
     have c3 : w6.cell? ⟨p,3,none⟩ = some (.slice a7 M5.length q7):=by rw [cell_of_row _ _ _ _ _ _ HW6.out.hp];rfl
     have hmb : M5.length + 1<=60000000010:=by have:=hml.out;have:=HLM.out;omega
     have HY6 : Hid (Opn Y w6):=hY.tr HT6.out
     clear ho hgrow hkeep hv6 hvv hmm hown hw5 hsl hsm hzy ht hm
     go_upto_region 11 with (fail)
     go_wp2_with (first
      | (at_builtin;refine wpList_append_keeps rfl _ _ 72 rfl 0 34 i0 (.slice none 0 0) 1 24 Tryz.underlying72 hi hz0 hz1 hz2 rfl (by decide) _ _ _ rfl (hrm.alloc _) ⟨w6.heap.size,0,none⟩ 1 1 [.slice a6 (N + 1) q6] rfl rfl (by decide) (cells_one_new _ _ _) (by simp;rfl) (by omega) (by omega) (by omega) ?_))
     intro v8 w8 hown _ hgrow hv8
     obtain ⟨hG,hp8,hkp⟩:=HW6.out.growM HY6.out (x:=.slice a6 (N + 1) q6) (by
      have e : ((M5.length : Int) / 3 + 1) = (L.length : Int) + 1:=by have:=hml.out;have:=HLM.out;omega
      rw [e,HK.out];exact HA6.out) HZ6.out (fun k hk=>(HO6.out.lt k hk).2) hgrow hown (by simpa using hv8)
     have k3 : w8.cell? ⟨p,3,none⟩ = some (.slice a7 M5.length q7):=by rw [cell_of_row _ _ _ _ _ _ hp8];rfl
     have fz8 : ∀ o,w8.frozen? ⟨p,o,none⟩ = false:=fun o=>frozen_of_row _ _ _ _ _ hp8
     have hxA:=HO6.out.alloc (.cells #[.slice a6 (N + 1) q6] 34)
     have hrA:=hrm.alloc (.cells #[.slice a6 (N + 1) q6] 34)
     have HO8 : Hid ((w8.setCell ⟨p,3,none⟩ v8).ownsRow 0 9 1 (.slice a6 (N + 1) q6) (N + 1) (zs ++ [.string mk])):=own_setCell (own_grown hxA hgrow (own_apart' hxA hrA (by decide))) hp8 (by decide)
     have HT8 : Hid (Tr Y w (w8.setCell ⟨p,3,none⟩ v8)):=((HT6.out.alloc _).grown hgrow (fun b hb _=>HW6.out.zm b hb)).setCell HW6.out.zp _
     have HG8 : Hid (WorldIn Y (w8.setCell ⟨p,3,none⟩ v8) p s0 s1 L5 (M5 ++ [.slice a6 (N + 1) q6]) (.slice a3 (L.length + 1) q3) v8):=hG
     have HM8 : Hid (∀ i,i < (M5 ++ [Value.slice a6 (N + 1) q6]).length->Sep (vl (M5 ++ [Value.slice a6 (N + 1) q6]) i) (markF ((i : Int) / 3 + 1)) mk (.slice a6 (N + 1) q6) (N + 1)):=by
      intro i hi
      rcases Nat.lt_or_ge i M5.length with hlt | hge
      ·rw [vl_append_lt M5 _ i hlt];exact HM6.out i hlt
      ·have : i = M5.length:=by simp at hi;omega
       subst this
       have e : ((M5.length : Int) / 3 + 1) = (L.length : Int) + 1:=by have:=hml.out;have:=HLM.out;omega
       rw [vl_append_eq,e,HK.out]
       exact ⟨_,_,_,rfl,.inr (.inr ⟨rfl,Nat.le_refl _,own_off HO6.out⟩)⟩
     obtain ⟨a8,q8,hv8s,_,_,_⟩:=own_cells hown
     subst hv8s
     have hkN : Hid (xs.length + (k + 1) = N + 1):=by show _ = _;have:=hNk.out;omega
     clear hgrow hown hv8 hp8 hrm hrA hxA c3 hG hkp HW6 HO6 HT6 HM6 HA6
     go_wp2_with fail
     go_roundw
     case rel=>exact ⟨k + 1,zs ++ [.string mk],M5 ++ [.slice a6 (N + 1) q6],_,by omega,by go_num,by show _ = _;rw [List.length_append,hml.out];rfl,by rw [hkN.out];exact HO8.out,by rw [hkN.out];exact HMM,HZ6,HG8,by rw [hkN.out];exact HL6,by rw [hkN.out];exact HM8,HT8⟩
     case measure=>simp [intOf];omega
    ·have k1 : ¬ (k : Int) < 3:=by omega
     have HF : Hid (KeepEnd Y p s0 s1 (L.length + 1) (M.length + 3) (.returned (.tuple #[])) wr):=⟨rfl,L5,M5,_,_,hw5.out,HL5.out,by rw [hml.out];omega⟩
     go_wp2
     go_end0
     exact ⟨HF.out,ht.out⟩
end Go.Proofs.YtilkdeghknjjhaaGreatDoor
namespace Go.Proofs.YtilkdeghknjjhaaGreatDoor
open Go.RowKit M Go.Maps
variable {Y Z X Zd Zx Zm : Nat->Prop} {w w' : World} {L F : List MuV} {m rem r p n b q b0 b1 c : Nat} {nd : Int} {ms fl : List Mt} {v vh : Value} {D : Dk} {s : Sd}
theorem ModT.tr (h : ModT w L) (hz : ∀ y ∈ L,InZ Z y.s) (t : Tr Y w w') (hd : ∀ k,Z k->¬ Y k) : ModT w' L:=fun y hy b hb=>by
 obtain ⟨cs,hc⟩:=h y hy b hb
 exact ⟨cs,t.heap hc (hd b (hz y hy b hb))⟩
structure DocIn (Z : Nat->Prop) (w : World) (m : Nat) (nd : Int) (ms : List Mt) (v : Value) (fl : List Mt) (L : List MuV) (vh : Value) (F : List MuV) : Prop where
 mi : ModIn Z w m nd L vh
 mt : ModT w L
 me : L.map MuV.x = ms.map Mt.mu
 fo : w.ownsRow 0 191 4 v F.length (cellsM F)
 fz : InZ Z v
 fr : ∀ y ∈ F,Rd w y.s y.x.c
 fy : ∀ y ∈ F,InZ Z y.s
 ft : ModT w F
 fe : F.map MuV.x = fl.map Mt.mu
 f1 : F.length<=1
 f0 : F = []->v = .slice none 0 0
theorem DocIn.tr (h : DocIn Z w m nd ms v fl L vh F) (t : Tr Y w w') (hd : ∀ k,Z k->¬ Y k) : DocIn Z w' m nd ms v fl L vh F :=
 ⟨h.mi.tr t hd,h.mt.tr h.mi.zc t hd,h.me,own_tr h.fo t (fun k hk=>hd k (h.fz k hk)),h.fz,fun y hy=>(h.fr y hy).tr t (fun k hk=>hd k (h.fy y hy k hk)),h.fy,h.ft.tr h.fy t hd,h.fe,h.f1,h.f0⟩
theorem DocIn.close (h : DocIn Z w m nd ms v fl L vh F) : DocIn (fun k=>Z k/\k < w.heap.size) w m nd ms v fl L vh F:=by
 have hb : ∀ {k : Nat} {o : Obj},w.heap[k]? = some o->k < w.heap.size:=fun hk=>(Array.getElem?_eq_some_iff.1 hk).1
 have ht : ∀ {l : List MuV},ModT w l->∀ y ∈ l,∀ k,y.s.ownBlock = some k->k < w.heap.size:=fun hT y hy k hk=>by
  obtain ⟨cs,hc⟩:=hT y hy k hk
  exact hb hc
 exact ⟨⟨⟨h.mi.zp,hb h.mi.hp⟩,h.mi.hp,h.mi.rh,h.mi.rc,fun k hk=>⟨h.mi.zh k hk,(h.mi.rh.lt k hk).2⟩,fun y hy k hk=>⟨h.mi.zc y hy k hk,ht h.mt y hy k hk⟩⟩,h.mt,h.me,h.fo,fun k hk=>⟨h.fz k hk,(h.fo.lt k hk).2⟩,h.fr,fun y hy k hk=>⟨h.fy y hy k hk,ht h.ft y hy k hk⟩,h.ft,h.fe,h.f1,h.f0⟩
theorem DocIn.len (h : DocIn Z w m nd ms v fl L vh F) : L.length = ms.length/\F.length = fl.length:=by
 have h1:=congrArg List.length h.me
 have h2:=congrArg List.length h.fe
 simp at h1 h2
 exact ⟨h1,h2⟩
structure DkR (nd : Int) (D : Dk) (ms fl : List Mt) (cr : Bool) (held : Int) (rem : Nat) : Prop where
 ex : ∃ md hd,DI nd D md hd/\md <+: ms ++ fl/\(cr = false->ms.length<=md.length)/\held<=hd/\hd<=md.length
 bu : D.Bud (900000000 + 20 * rem)
theorem DkR.less {cr : Bool} {held : Int} (h : DkR nd D ms fl cr held rem) (hr : r<=rem) : DkR nd D ms fl cr held r:=⟨h.ex,h.bu.mono (by omega)⟩
structure OpnIn (Zd Zx : Nat->Prop) (w : World) (p : Nat) (D : Dk) (s : Sd) (ms fl : List Mt) (n x j : Nat) (Y : Nat->Prop) (mv : Value) (J : Jn) (S : St) : Prop where
 hx : s.x = .pointer (some ⟨x,0,none⟩)
 cl : s.cl = false
 cr : s.cr = false
 sto : Sto Zd Y w x j p mv n D J S
 yz : ∀ k,Y k->Zx k
 jz : Zx j
 doc : Doc s.n S ms
 ev : S.every = s.ev
 ro : S.ro = s.ro
 num : J.num < 900000000
 wr : S.ro = false->fl = []/\∃ hd : Nat,SI s.n D J S ms hd/\s.held = hd/\s.un = ms.length - hd
inductive XIn (Zd Zx : Nat->Prop) (w : World) (p : Nat) (D : Dk) (s : Sd) (ms fl : List Mt) (n : Nat) : Prop
 | none : s.x = .pointer none->XIn Zd Zx w p D s ms fl n
 | gone : s.cr = true->XIn Zd Zx w p D s ms fl n
 | cls (x : Nat) : s.x = .pointer (some ⟨x,0,none⟩)->s.cl = true->ClAt w x->Zx x->XIn Zd Zx w p D s ms fl n
 | opn (x j : Nat) (Y : Nat->Prop) (mv : Value) (J : Jn) (S : St) : OpnIn Zd Zx w p D s ms fl n x j Y mv J S->XIn Zd Zx w p D s ms fl n
structure SdR (Z : Nat->Prop) (w : World) (b : Nat) (s : Sd) (ms fl : List Mt) (rem : Nat) (p m : Nat) (Zd Zx Zm : Nat->Prop) (D : Dk) (L : List MuV) (vh : Value) (F : List MuV) (n : Nat) : Prop where
 sd : SdAt w b s
 d : s.d = .pointer (some ⟨p,0,none⟩)
 mm : s.m = .pointer (some ⟨m,0,none⟩)
 dk : DiskAt Zd w p D
 dr : DkR s.n D ms fl s.cr s.held rem
 doc : DocIn Zm w m s.n ms s.fl fl L vh F
 x : XIn Zd Zx w p D s ms fl n
 o : optOK s.n s.ev s.r = true
 zd : ∀ k,Zd k->Z k
 zx : ∀ k,Zx k->Z k
 zm : ∀ k,Zm k->Z k
 zb : Z b
 a1 : ∀ k,Zd k->¬ Zx k
 a2 : ∀ k,Zd k->¬ Zm k
 a3 : ∀ k,Zx k->¬ Zm k
 b1 : ¬ Zd b
 b2 : ¬ Zx b
 b3 : ¬ Zm b
 lt : ∀ k,Z k->5<=k/\k < w.heap.size
 len : ms.length + fl.length + rem<=120000
 nn : n + 20 * rem<=400000000
 h0 : 0<=s.held
 h1 : s.held<=ms.length
 u0 : 0<=s.un
 u1 : s.un<=ms.length
 ct : s.ctx.size<=1000000
def SdE (Z : Nat->Prop) (w : World) (b : Nat) (rem : Nat) : Prop:=∃ s ms fl p m Zd Zx Zm D L vh F n,SdR Z w b s ms fl rem p m Zd Zx Zm D L vh F n/\(s.cr = true->s.x = .pointer none)
theorem XIn.tr (h : XIn Zd Zx w p D s ms fl n) (t : Tr X w w') (h1 : ∀ k,Zd k->¬ X k) (h2 : ∀ k,Zx k->¬ X k) (h5 : ∀ k,X k->5<=k) : XIn Zd Zx w' p D s ms fl n:=by
 cases h with
 | none hx=>exact .none hx
 | gone hx=>exact .gone hx
 | cls x hx hc ha hz=>exact .cls x hx hc (t.heap ha (h2 x hz)) hz
 | opn x j Y mv J S e =>
  exact .opn x j Y mv J S ⟨e.hx,e.cl,e.cr,e.sto.tr t fun k hk=>⟨fun hz=>h1 k hz hk,fun hy=>h2 k (e.yz k hy) hk,fun ej=>h2 j e.jz (ej ▸ hk),h5 k hk⟩,e.yz,e.jz,e.doc,e.ev,e.ro,e.num,e.wr⟩
theorem SdR.tr (h : SdR Z w b s ms fl rem p m Zd Zx Zm D L vh F n) (t : Tr X w w') (hx : ∀ k,Z k->¬ X k) (h5 : ∀ k,X k->5<=k) :
  SdR Z w' b s ms fl rem p m Zd Zx Zm D L vh F n :=
 ⟨h.sd.tr t (hx b h.zb),h.d,h.mm,h.dk.tr t (fun k hk=>hx k (h.zd k hk)),h.dr,h.doc.tr t (fun k hk=>hx k (h.zm k hk)),h.x.tr t (fun k hk=>hx k (h.zd k hk)) (fun k hk=>hx k (h.zx k hk)) h5,h.o,h.zd,h.zx,h.zm,h.zb,h.a1,h.a2,h.a3,h.b1,h.b2,h.b3,
  fun k hk=>⟨(h.lt k hk).1,Nat.lt_of_lt_of_le (h.lt k hk).2 t.size⟩,h.len,h.nn,h.h0,h.h1,h.u0,h.u1,h.ct⟩
theorem SdE.tr (h : SdE Z w b rem) (t : Tr X w w') (hx : ∀ k,Z k->¬ X k) (h5 : ∀ k,X k->5<=k) : SdE Z w' b rem:=by
 obtain ⟨s,ms,fl,p,m,Zd,Zx,Zm,D,L,vh,F,n,h,hc⟩:=h
 exact ⟨s,ms,fl,p,m,Zd,Zx,Zm,D,L,vh,F,n,h.tr t hx h5,hc⟩
theorem SdR.below (h : SdR Z w b s ms fl rem p m Zd Zx Zm D L vh F n) (t : Below w.heap.size w w') (h5 : 5<=w.heap.size) :
  SdR Z w' b s ms fl rem p m Zd Zx Zm D L vh F n :=
 h.tr (below_tr t (fun k=>w.heap.size<=k)) (fun k hk hn=>by have:=(h.lt k hk).2;omega) (fun k hk=>by omega)
theorem SdR.less (h : SdR Z w b s ms fl rem p m Zd Zx Zm D L vh F n) (hr : r<=rem) :
  SdR Z w b s ms fl r p m Zd Zx Zm D L vh F n :=
 ⟨h.sd,h.d,h.mm,h.dk,h.dr.less hr,h.doc,h.x,h.o,h.zd,h.zx,h.zm,h.zb,h.a1,h.a2,h.a3,h.b1,h.b2,h.b3,h.lt,by have:=h.len;omega,by have:=h.nn;omega,h.h0,h.h1,h.u0,h.u1,h.ct⟩
def WoR (Z : Nat->Prop) (w : World) (q b0 b1 : Nat) (c : Nat) : Prop :=
 ∃ L M v u,WorldIn Z w q (.pointer (some ⟨b0,0,none⟩)) (.pointer (some ⟨b1,0,none⟩)) L M v u/\L.length = c/\M.length = 3 * c/\∀ k,Z k->5<=k/\k < w.heap.size
theorem WoR.tr (h : WoR Z w q b0 b1 c) (t : Tr X w w') (hx : ∀ k,Z k->¬ X k) : WoR Z w' q b0 b1 c:=by
 obtain ⟨L,M,v,u,h1,h2,h3,h4⟩:=h
 exact ⟨L,M,v,u,h1.tr t hx,h2,h3,fun k hk=>⟨(h4 k hk).1,Nat.lt_of_lt_of_le (h4 k hk).2 t.size⟩⟩
theorem WoR.below (h : WoR Z w q b0 b1 c) (t : Below w.heap.size w w') : WoR Z w' q b0 b1 c:=by
 obtain ⟨L,M,v,u,h1,h2,h3,h4⟩:=h
 exact ⟨L,M,v,u,h1.below t,h2,h3,fun k hk=>⟨(h4 k hk).1,Nat.lt_of_lt_of_le (h4 k hk).2 t.size⟩⟩
theorem WoR.keep {B A : Nat} (h : WoR Z w q b0 b1 c) (x : Value) (xs : List ByteArray) (hc : c<=20000000000) (hx : OwnX w B x xs) (hl : xs.length<=1000000) (hxz : InZ (fun k=>¬ Z k/\A<=k) x) (hA : 5<=A) (hAw : A<=w.heap.size) :
  Calls Tryz.prog 107 #[.pointer (some ⟨q,0,none⟩),x] w fun e w'=>e = .returned (.tuple #[])/\WoR (fun k=>k < w'.heap.size/\(Z k\/x.ownBlock = some k\/w.heap.size<=k)) w' q b0 b1 (c + 1)/\Tr (fun k=>Z k\/x.ownBlock = some k\/w.heap.size<=k) w w':=by
 obtain ⟨L,M,v,u,h1,h2,h3,h4⟩:=h
 refine (wkeep_any Z (fun k=>Z k\/x.ownBlock = some k\/w.heap.size<=k) q B _ _ L M v u x xs w h1 (by omega) (by omega) hx hl (fun k hk=>(hxz k hk).1) (fun k hk=>(h4 k hk).2) (fun k hk=>.inl hk) (fun k hk=>.inr (.inl hk)) (fun k hk=>.inr (.inr hk))).mono ?_
 rintro e w' ⟨⟨he,L',M',v',u',g1,g2,g3⟩,t⟩
 have gp:=g1.hp
 refine ⟨he,⟨L',M',v',u',?_,by omega,by omega,fun k hk=>⟨?_,hk.1⟩⟩,t⟩
 ·have hc : ∀ (z : Value),(∀ k,z.ownBlock = some k->k < w'.heap.size)->InZ (fun k=>Z k\/x.ownBlock = some k\/w.heap.size<=k) z->InZ (fun k=>k < w'.heap.size/\(Z k\/x.ownBlock = some k\/w.heap.size<=k)) z:=fun z hz hi k hk=>⟨hz k hk,hi k hk⟩
  exact ⟨⟨(Array.getElem?_eq_some_iff.1 gp).1,g1.zp⟩,g1.hp,g1.rl,g1.rm,fun i hi=>⟨(g1.al i hi).1,hc _ (g1.bl i hi) (g1.al i hi).2⟩,fun i hi=>⟨(g1.am i hi).1,hc _ (g1.bm i hi) (g1.am i hi).2⟩,hc _ (fun k hk=>(g1.rl.lt k hk).2) g1.zl,hc _ (fun k hk=>(g1.rm.lt k hk).2) g1.zm,g1.ap,g1.bl,g1.bm⟩
 ·rcases hk.2 with hz | hz | hz
  ·exact (h4 k hz).1
  ·have:=(hxz k hz).2;omega
  ·omega
end Go.Proofs.YtilkdeghknjjhaaGreatDoor
namespace Go.Proofs.YtilkdeghknjjhaaGreatDoor
open Go.RowKit M
theorem crF_mem {files : List Fl} {l : List Nm} {keep : List Int} {m : Nat} (h : ∀ x ∈ files,x.d.size<=m) : ∀ i,∀ x ∈ crF files l keep i,x.d.size<=m
 | 0,x,hx=>h x hx
 | i + 1,x,hx=>by
  have ih:=crF_mem (l:=l) (keep:=keep) h i
  rcases mem_set_or hx with hx | rfl
  ·exact ih x hx
  ·show ((fl (crF files l keep i) (nm l i).f).d.extract 0 _).size<=m
   rw [ByteArray.size_extract]
   have h2 : (fl (crF files l keep i) (nm l i).f).d.size<=m:=by
    by_cases hl : (nm l i).f < (crF files l keep i).length
    ·rw [fl_get _ _ hl];exact ih _ (List.getElem_mem _)
    ·have : fl (crF files l keep i) (nm l i).f = Fl.z:=by simp [fl,List.getD,List.getElem?_eq_none (Nat.le_of_not_lt hl)]
     rw [this];simp [Fl.z]
   omega
theorem JD.crash_ok {D : Dk} {ms : List Mt} {k sz : Nat} {cut sy : Bool} {hd n : Nat} (h : JD D ms k sz cut sy hd) (hw : D.WF) (hb : D.Bud n) (hkf : D.files.length<=100000000) (keep : List Int) :
  D.CrOK keep/\(D.crash keep).WF/\(D.crash keep).Bud n/\(D.crash keep).Sound/\(D.crash keep).cap = D.cap/\(D.crash keep).files.length = D.files.length:=by
 have hk:=h.kf
 obtain ⟨a,F,B,T,g1,_⟩:=h
 have hak:=g1.ak
 obtain ⟨l1,l2⟩:=g1.lens (by omega)
 have hst : D.steps.length = k - a:=by rw [g1.steps];simp
 have hkp:=D.kept_le keep
 have hcr:=fun q (hq : q<=k - a)=>g1.crN (by omega) q hq
 obtain ⟨c1,c2,c3⟩:=hcr (D.kept keep) (by omega)
 have hlt : ∀ x ∈ crN D.safe D.steps (D.kept keep),x.f < D.files.length:=fun x hx=>by
  obtain ⟨i,i1,i2,rfl⟩:=(c3 x).1 hx
  exact g1.lt i i1 (by omega)
 have hfl : (crF D.files (crN D.safe D.steps (D.kept keep)) keep (crN D.safe D.steps (D.kept keep)).length).length = D.files.length:=crF_len _ _ _ _
 refine ⟨⟨fun q hq=>?_,hlt,fun x hx=>?_,fun f=>hw.ok.size f,hw.ok.lt⟩,⟨⟨⟨by show (-1 : Int)<=_;omega,by show (-1 : Int)<=_;omega,hw.ok.fit.f0,hw.ok.fit.f1⟩,fun x hx=>?_,fun x hx=>?_,fun x hx=>by simp [Dk.crash] at hx,?_,?_,by show 0<=_;omega,?_,?_,hw.ok.c0,hw.ok.c1,fun hc x hx=>?_⟩,c1,fun x hx=>?_⟩,⟨hb.f,?_,?_,?_⟩,⟨by show (-1 : Int) < 0;omega,by show (-1 : Int) < 0;omega⟩,rfl,hfl⟩
 ·rw [(hcr q (by omega)).2.1];omega
 ·obtain ⟨i,i1,i2,rfl⟩:=(c3 x).1 hx
  exact g1.syk i i1 (by omega)
 ·show x.f < (crF _ _ _ _).length
  rw [hfl];exact hlt x hx
 ·show x.f < (crF _ _ _ _).length
  rw [hfl];exact hlt x hx
 ·show (crN D.safe D.steps (D.kept keep)).length<=_
  rw [c2];omega
 ·show (crF _ _ _ _).length<=_
  rw [hfl];omega
 ·show (crN D.safe D.steps (D.kept keep)).length<=_
  rw [c2];omega
 ·exact fun x hx=>crF_mem hw.ok.sz _ x hx
 ·have:=crF_mem (m:=0) (l:=crN D.safe D.steps (D.kept keep)) (keep:=keep) (fun x hx=>by rw [hw.ok.neg hc x hx];exact Nat.le_refl _) _ x hx
  omega
 ·obtain ⟨i,i1,i2,rfl⟩:=(c3 x).1 hx
  exact fnm_ne i
 ·show (crF _ _ _ _).length + n<=_
  rw [hfl];exact hb.l
 ·show 0 + n<=_
  have:=hb.s;omega
 ·show (crN D.safe D.steps (D.kept keep)).length + n<=_
  have:=hb.n
  rw [c2];omega
end Go.Proofs.YtilkdeghknjjhaaGreatDoor
namespace Go.Proofs.YtilkdeghknjjhaaGreatDoor
open Go.RowKit M Go.Maps
variable {Z Zd Zx Zm Zm' Y : Nat->Prop} {w w' : World} {b rem p m n j : Nat} {s s' : Sd} {ms fl ms' fl' : List Mt} {D D' : Dk} {L F L' F' : List MuV} {vh vh' : Value} {e : Ending} {J : Jn} {S : St}
def StepE (Z : Nat->Prop) (w : World) (b rem : Nat) (e : Ending) (w' : World) : Prop :=
 e = .returned (.bool true)/\Tr Z w w'/\∃ Z',SdE Z' w' b rem/\∀ k,Z' k->Z k\/w.heap.size<=k
theorem SdR.pack {rem0 : Nat} (h : SdR Z w b s ms fl rem0 p m Zd Zx Zm D L vh F n)
  {w2 : World} {Zd' Zx' : Nat->Prop} {n' p' m' : Nat}
  (hs2 : w.heap.size<=w2.heap.size) (hs' : w2.heap.size<=w'.heap.size) (h5 : 5<=w.heap.size) (sd : SdAt w' b s') (e1 : s'.d = .pointer (some ⟨p',0,none⟩)) (e2 : s'.m = .pointer (some ⟨m',0,none⟩)) (en : s'.n = s.n) (ee : s'.ev = s.ev) (er : s'.r = s.r) (ec : s'.ctx.size<=1000000)
  (dk : DiskAt Zd' w' p' D') (dr : DkR s.n D' ms' fl' s'.cr s'.held rem) (doc : DocIn Zm' w' m' s.n ms' s'.fl fl' L' vh' F') (x : XIn Zd' Zx' w' p' D' s' ms' fl' n')
  (zd : ∀ k,Zd' k->(Zd k\/w.heap.size<=k)/\k < w2.heap.size) (zx : ∀ k,Zx' k->(Zx k\/w.heap.size<=k)/\k < w2.heap.size) (zdx : ∀ k,Zd' k->¬ Zx' k) (zm : ∀ k,Zm' k->(Zm k\/w2.heap.size<=k)/\k < w'.heap.size)
  (len : ms'.length + fl'.length + rem<=120000) (nn : n' + 20 * rem<=400000000) (h0 : 0<=s'.held) (h1 : s'.held<=ms'.length) (u0 : 0<=s'.un) (u1 : s'.un<=ms'.length) :
  SdR (fun k=>Z k\/(w.heap.size<=k/\k < w'.heap.size)) w' b s' ms' fl' rem p' m' Zd' Zx' Zm' D' L' vh' F' n':=by
 have hb:=(h.lt b h.zb).2
 refine ⟨sd,e1,e2,dk,by rw [en];exact dr,by rw [en];exact doc,x,by rw [en,ee,er];exact h.o,fun k hk=>?_,fun k hk=>?_,fun k hk=>?_,.inl h.zb,zdx,fun k hk hm=>?_,fun k hk hm=>?_,fun hk=>?_,fun hk=>?_,fun hk=>?_,fun k hk=>?_,len,nn,h0,h1,u0,u1,ec⟩
 ·obtain ⟨g1,g2⟩:=zd k hk
  exact g1.imp (h.zd k) (fun g=>⟨g,by omega⟩)
 ·obtain ⟨g1,g2⟩:=zx k hk
  exact g1.imp (h.zx k) (fun g=>⟨g,by omega⟩)
 ·obtain ⟨g1,g2⟩:=zm k hk
  exact g1.imp (h.zm k) (fun g=>⟨by omega,g2⟩)
 ·obtain ⟨g1,g2⟩:=zd k hk
  obtain ⟨g3,g4⟩:=zm k hm
  rcases g1 with g1 | g1
  ·rcases g3 with g3 | g3
   ·exact h.a2 k g1 g3
   ·have:=(h.lt k (h.zd k g1)).2;omega
  ·rcases g3 with g3 | g3
   ·have:=(h.lt k (h.zm k g3)).2;omega
   ·omega
 ·obtain ⟨g1,g2⟩:=zx k hk
  obtain ⟨g3,g4⟩:=zm k hm
  rcases g1 with g1 | g1
  ·rcases g3 with g3 | g3
   ·exact h.a3 k g1 g3
   ·have:=(h.lt k (h.zx k g1)).2;omega
  ·rcases g3 with g3 | g3
   ·have:=(h.lt k (h.zm k g3)).2;omega
   ·omega
 ·rcases (zd b hk).1 with g | g
  ·exact h.b1 g
  ·omega
 ·rcases (zx b hk).1 with g | g
  ·exact h.b2 g
  ·omega
 ·rcases (zm b hk).1 with g | g
  ·exact h.b3 g
  ·omega
 ·rcases hk with hk | hk
  ·have:=h.lt k hk;omega
  ·omega
theorem SdE.step (he : e = .returned (.bool true)) (t : Tr Z w w') (h : SdE (fun k=>Z k\/(w.heap.size<=k/\k < w'.heap.size)) w' b rem) : StepE Z w b rem e w' :=
 ⟨he,t,_,h,fun k hk=>hk.imp (fun h=>h) (fun h=>h.1)⟩
theorem SdR.idle (h : SdR Z w b s ms fl (rem + 1) p m Zd Zx Zm D L vh F n) (hb : Below w.heap.size w w') (h5 : 5<=w.heap.size) (hcx : s.cr = true->s.x = .pointer none) (he : e = .returned (.bool true)) : StepE Z w b rem e w' :=
 ⟨he,below_tr hb Z,Z,⟨s,ms,fl,p,m,Zd,Zx,Zm,D,L,vh,F,n,(h.below hb h5).less (by omega),hcx⟩,fun k hk=>.inl hk⟩
theorem SdR.behind (h : SdR Z w b s ms fl rem p m Zd Zx Zm D L vh F n) (hY : ∀ k,Y k->Zx k) (hj : Zx j) (t : Tr (Zs Zd Y j) w w') :
  SdAt w' b s/\DocIn Zm w' m s.n ms s.fl fl L vh F/\Tr Z w w':=by
 have hz : ∀ k,Zs Zd Y j k->Zd k\/Zx k:=fun k hk=>by
  rcases hk with hk | hk | hk
  ·exact .inl hk
  ·exact .inr (hY k hk)
  ·exact .inr (hk ▸ hj)
 refine ⟨h.sd.tr t (fun hk=>?_),h.doc.tr t (fun k hk hh=>?_),t.mono (fun k _ hk=>?_)⟩
 ·rcases hz b hk with hk | hk
  ·exact h.b1 hk
  ·exact h.b2 hk
 ·rcases hz k hh with hh | hh
  ·exact h.a2 k hh hk
  ·exact h.a3 k hh hk
 ·rcases hz k hk with hk | hk
  ·exact h.zd k hk
  ·exact h.zx k hk
theorem doF_num (D : Dk) (J : Jn) (S : St) (m : Mt) : (doF D J S m).2.2.1.num<=J.num + 1:=by
 unfold doF doG
 split
 ·show J.num<=_;omega
 ·split
  ·show J.num<=_;omega
  ·have h1:=jappend_num D J (encM m)
   have h2 : (writeF D J { S with M:=keepM S.M m.k ⟨(outF (S.M m.k) m).1,(outF (S.M m.k) m).2.1⟩,cnt:=m.count } (encM m)).2.2.1 = (jappend D J (encM m)).2.2:=by
    unfold writeF
    split
    ·rfl
    ·split <;> rfl
   unfold doW
   split <;> (show (writeF _ _ _ _).2.2.1.num<=_;rw [h2];exact h1)
theorem wF_bud {k : Nat} (hw : D.WF) (hb : D.Bud (k + 5)) (J : Jn) (S : St) (t : ByteArray) : (writeF D J S t).2.1.Bud k:=by
 have h1:=jappend_bud hw (k:=k + 2) hb J t
 unfold writeF
 split
 ·exact h1.mono (by omega)
 ·split
  ·exact h1.mono (by omega)
  ·have:=jsync_bud h1 (jappend D J t).2.2
   unfold holdF
   split <;> exact this
theorem doF_bud {k : Nat} (hw : D.WF) (hb : D.Bud (k + 5)) (J : Jn) (S : St) (m : Mt) : (doF D J S m).2.1.Bud k:=by
 unfold doF doG
 split
 ·exact hb.mono (by omega)
 ·split
  ·exact hb.mono (by omega)
  ·have h1:=wF_bud hw hb J { S with M:=keepM S.M m.k ⟨(outF (S.M m.k) m).1,(outF (S.M m.k) m).2.1⟩,cnt:=m.count } (encM m)
   unfold doW
   split <;> exact h1
theorem Doc.writ {nd : Int} {hd : Nat} (h : SI nd D J S ms hd) (n0 : 0<=nd) (n1 : nd<=15) (hl : ms.length<=1000000000) : Doc nd S ms:=⟨h.node,h.cnt,h.M,h.good,n0,n1,hl⟩
theorem SdR.after (h : SdR Z w b s ms fl (rem + 1) p m Zd Zx Zm D L vh F n)
  {x : Nat} {mv : Value} (ho : OpnIn Zd Zx w p D s ms fl n x j Y mv J S)
  {w2 : World} {J' : Jn} {S' : St} {X : Nat->Prop} (hX : StoX Zd Y w w2 x j p (n + 2) D' J' S') (t : Tr X w2 w') (hx : ∀ k,X k->k = b\/Zm k\/w2.heap.size<=k)
  (sd : SdAt w' b s') (e1 : s'.d = s.d) (e2 : s'.m = s.m) (e3 : s'.x = s.x) (en : s'.n = s.n) (ee : s'.ev = s.ev) (er : s'.r = s.r) (ec : s'.ctx = s.ctx) (el : s'.cl = s.cl) (ek : s'.cr = s.cr)
  (dr : DkR s.n D' ms' fl' s'.cr s'.held rem) (doc : DocIn Zm' w' m s.n ms' s'.fl fl' L' vh' F') (zm : ∀ k,Zm' k->(Zm k\/w2.heap.size<=k)/\k < w'.heap.size)
  (docS : Doc s.n S' ms') (hev : S'.every = S.every) (hro : S'.ro = s'.ro) (hnum : J'.num < 900000000)
  (wr : S'.ro = false->fl' = []/\∃ hd : Nat,SI s.n D' J' S' ms' hd/\s'.held = hd/\s'.un = ms'.length - hd)
  (len : ms'.length + fl'.length + rem<=120000) (h0 : 0<=s'.held) (h1 : s'.held<=ms'.length) (u0 : 0<=s'.un) (u1 : s'.un<=ms'.length) :
  SdE (fun k=>Z k\/(w.heap.size<=k/\k < w'.heap.size)) w' b rem:=by
 obtain ⟨⟨Zd',Y',mv',hs,hzd,hzy⟩,t1⟩:=hX
 have hb:=h.lt b h.zb
 have h5 : 5<=w.heap.size:=by omega
 have hjl : j < w.heap.size:=(h.lt j (h.zx j ho.jz)).2
 have hsz:=t1.size
 have hfar : ∀ k,X k->¬ Zd' k/\¬ Y' k/\k ≠ j/\5<=k:=fun k hk=>by
  rcases hx k hk with e | e | e
  ·subst e
   refine ⟨fun hz=>?_,fun hy=>?_,fun e=>h.b2 (e ▸ ho.jz),by omega⟩
   ·rcases hzd _ hz with g | g
    ·exact h.b1 g
    ·omega
   ·rcases hzy _ hy with g | g
    ·exact h.b2 (ho.yz _ g)
    ·omega
  ·have hk5:=h.lt k (h.zm k e)
   refine ⟨fun hz=>?_,fun hy=>?_,fun ej=>h.a3 j ho.jz (ej ▸ e),by omega⟩
   ·rcases hzd _ hz with g | g
    ·exact h.a2 k g e
    ·omega
   ·rcases hzy _ hy with g | g
    ·exact h.a3 k (ho.yz _ g) e
    ·omega
  ·refine ⟨fun hz=>?_,fun hy=>?_,by omega,by omega⟩
   ·have:=hs.lz k hz;omega
   ·have:=hs.st.lt k hy;omega
 have hs':=hs.tr t hfar
 refine ⟨_,_,_,_,_,_,_,_,_,_,_,_,_,h.pack (w2:=w2) (Zd':=Zd') (Zx':=fun k=>Y' k\/k = j) hsz t.size h5 sd (e1.trans h.d) (e2.trans h.mm) en ee er (by rw [ec];exact h.ct) hs'.side.dk dr doc
  (.opn x j Y' mv' J' S' ⟨e3.trans ho.hx,el.trans ho.cl,ek.trans ho.cr,hs',fun k hk=>.inl hk,.inr rfl,by rw [en];exact docS,hev.trans (ho.ev.trans ee.symm),hro,hnum,fun hr=>by rw [en];exact wr hr⟩)
  (fun k hk=>⟨hzd k hk,hs.lz k hk⟩) (fun k hk=>?_) (fun k hk hz=>?_) zm len (by have:=h.nn;omega) h0 h1 u0 u1,fun hh=>by rw [ek,ho.cr] at hh;cases hh⟩
 ·rcases hk with hk | rfl
  ·exact ⟨(hzy k hk).imp (ho.yz k) (fun g=>g),hs.st.lt k hk⟩
  ·exact ⟨.inl ho.jz,by omega⟩
 ·rcases hz with hz | rfl
  ·exact hs.dj k hk hz
  ·exact hs.jz hk
end Go.Proofs.YtilkdeghknjjhaaGreatDoor
namespace Go.Proofs.YtilkdeghknjjhaaGreatDoor
open Go.RowKit M Go.Maps
variable {Z Zd Zx Zm Y : Nat->Prop} {w w2 w' w3 : World} {b rem p m n x j hd a : Nat} {ms fl : List Mt} {D D' : Dk} {L F : List MuV} {vh mv : Value} {J J' : Jn} {S S' : St} {e : Ending} {mt : Mt} {y : MuV}
structure Chg (Z : Nat->Prop) (w : World) (b : Nat) (s : Sd) (ms fl : List Mt) (rem p m : Nat) (Zd Zx Zm : Nat->Prop) (D : Dk) (L : List MuV) (vh : Value) (F : List MuV) (n x j : Nat) (Y : Nat->Prop) (mv : Value) (J : Jn) (S : St) : Prop where
 h : SdR Z w b s ms fl (rem + 1) p m Zd Zx Zm D L vh F n
 o : OpnIn Zd Zx w p D s ms fl n x j Y mv J S
theorem Chg.behind {s : Sd} (c : Chg Z w b s ms fl rem p m Zd Zx Zm D L vh F n x j Y mv J S) (hX : StoX Zd Y w w2 x j p (n + 2) D' J' S') :
  SdAt w2 b s/\DocIn Zm w2 m s.n ms s.fl fl L vh F/\Tr Z w w2/\∃ Zd',DiskAt Zd' w2 p D':=by
 obtain ⟨h1,h2,h3⟩:=c.h.behind c.o.yz c.o.jz hX.2
 obtain ⟨⟨Zd',Y',mv',hs,_,_⟩,_⟩:=hX
 exact ⟨h1,h2,h3,Zd',hs.side.dk⟩
theorem Chg.lt {s : Sd} (c : Chg Z w b s ms fl rem p m Zd Zx Zm D L vh F n x j Y mv J S) : ∀ k,Zm k->k < w.heap.size:=fun k hk=>(c.h.lt k (c.h.zm k hk)).2
theorem Chg.no {s : Sd} (c : Chg Z w b s ms fl rem p m Zd Zx Zm D L vh F n x j Y mv J S) (hX : StoX Zd Y w w2 x j p (n + 2) D J S)
  (t : Tr (fun k=>k = b\/w2.heap.size<=k) w2 w') (sd : SdAt w' b s) (he : e = .returned (.bool true)) : StepE Z w b rem e w':=by
 obtain ⟨h1,h2,h3,_⟩:=c.behind hX
 have hlt:=c.lt
 have hsz:=h3.size
 have hd : DocIn Zm w' m s.n ms s.fl fl L vh F:=h2.tr t fun k hk hh=>by
  rcases hh with e | e
  ·exact c.h.b3 (e ▸ hk)
  ·have:=hlt k hk;omega
 refine SdE.step he (h3.trans' t fun k hk hh=>?_) (c.h.after c.o hX t (fun k hk=>hk.imp (fun h=>h) (fun h=>.inr h)) sd rfl rfl rfl rfl rfl rfl rfl rfl rfl (c.h.dr.less (by omega)) hd (fun k hk=>⟨.inl hk,?_⟩) c.o.doc rfl c.o.ro c.o.num c.o.wr (by have:=c.h.len;omega) c.h.h0 c.h.h1 c.h.u0 c.h.u1)
 ·rcases hh with e | e
  ·exact e ▸ c.h.zb
  ·omega
 ·have:=hlt k hk
  have:=t.size
  omega
theorem heldE_did {s : Sd} (hh : s.held = hd) (hu : s.un = (n : Int) - hd) (he : 0<=s.ev) (hl : hd<=n) : (s.did (n + 1)).held = heldE s.ev n hd/\(s.did (n + 1)).un = ((n + 1 : Nat) : Int) - heldE s.ev n hd:=by
 unfold Sd.did heldE
 by_cases h : 0 < s.ev/\s.ev<=s.un + 1
 ·rw [if_pos h,if_neg (by omega)]
  exact ⟨rfl,by show (0 : Int) = _;omega⟩
 ·rw [if_neg h,if_pos (by omega)]
  exact ⟨hh,by show s.un + 1 = _;omega⟩
theorem Sd.did_rest (s : Sd) (n : Nat) : (s.did n).d = s.d/\(s.did n).m = s.m/\(s.did n).x = s.x/\(s.did n).n = s.n/\(s.did n).ev = s.ev/\(s.did n).r = s.r/\(s.did n).ctx = s.ctx/\(s.did n).cl = s.cl/\(s.did n).cr = s.cr/\(s.did n).fl = s.fl/\(s.did n).ro = s.ro:=by
 unfold Sd.did
 split <;> exact ⟨rfl,rfl,rfl,rfl,rfl,rfl,rfl,rfl,rfl,rfl,rfl⟩
structure NewMu (w : World) (a : Nat) (mt : Mt) (y : MuV) : Prop where
 e : y.x = mt.mu
 own : w.ownsRow a 183 2 y.s y.x.c.length (cellsE y.x.c)
theorem NewMu.rd (h : NewMu w a mt y) : Rd w y.s y.x.c:=Rd.own h.own rfl
theorem NewMu.ge (h : NewMu w a mt y) : ∀ k,y.s.ownBlock = some k->a<=k:=fun k hk=>(h.own.lt k hk).1
theorem NewMu.t (h : NewMu w a mt y) (hL : ModT w L) : ModT w (L ++ [y]):=fun z hz b hb=>by
 rcases List.mem_append.1 hz with hz | hz
 ·exact hL z hz b hb
 ·rw [List.mem_singleton.1 hz] at hb
  exact own_heap h.own b hb
def Zg (Zm : Nat->Prop) (a : Nat) : Nat->Prop:=fun k=>Zm k\/a<=k
theorem Chg.done {s : Sd} (c : Chg Z w b s ms fl rem p m Zd Zx Zm D L vh F n x j Y mv J S)
  (hro : S.ro = false) (hS : SI s.n D J S ms hd) (hh : s.held = hd) (hu : s.un = ms.length - hd) (hdo : doF D J S mt = (0,D',J',S')) (hSI : SI s.n D' J' S' (ms ++ [mt]) (heldE S.every ms.length hd)) (hev : S'.every = S.every)
  (hX : StoX Zd Y w w2 x j p (n + 2) D' J' S') (hb3 : Below w2.heap.size w2 w3) (hy : NewMu w3 w2.heap.size mt y) (hE : DoneOE (Zg Zm w2.heap.size) w3 b m s s.n L vh y e w') : StepE Z w b rem e w':=by
 obtain ⟨he,hsd,⟨v',hM,hT⟩,t⟩:=hE
 obtain ⟨h1,h2,h3,_⟩:=c.behind hX
 have hlt:=c.lt
 obtain ⟨hLl,hFl⟩:=h2.len
 have hfl : fl = []:=(c.o.wr hro).1
 subst hfl
 have hF : F = []:=List.length_eq_zero_iff.1 (by simpa using hFl)
 subst hF
 obtain ⟨r1,r2,r3,r4,r5,r6,r7,r8,r9,r10,r11⟩:=s.did_rest (L.length + 1)
 have hsz3:=hb3.size
 have hm1 : Zm m:=c.h.doc.mi.zp
 have hvz:=c.h.doc.mi.zh
 have hbw:=(c.h.lt b c.h.zb).2
 have hs12:=h3.size
 have t2 : Tr (fun k=>k = b\/Zm k\/w2.heap.size<=k) w2 w':=(below_tr hb3 _).trans (t.mono fun k hk hz=>by
  rcases hz with hz | hz | hz
  ·exact .inl hz
  ·exact .inr (.inl (hz ▸ hm1))
  ·exact .inr (.inl (hvz k hz)))
 have hd3:=h2.tr (below_tr hb3 (fun k=>w2.heap.size<=k)) (fun k hk hn=>by have:=hlt k hk;omega)
 obtain ⟨d1,d2⟩:=heldE_did hh hu (by have:=c.h.o;unfold optOK at this;simp at this;omega) hS.hle
 rw [<- c.o.ev] at d1 d2
 have hlen:=c.h.len
 have hdoc : DocIn (fun k=>Zg Zm w2.heap.size k/\k < w'.heap.size) w' m s.n (ms ++ [mt]) (s.did (L.length + 1)).fl [] (L ++ [y]) v' []:=by
  refine DocIn.close ⟨hM,hT,by rw [List.map_append,List.map_append,h2.me];simp [hy.e],?_,?_,fun z hz=>by simp at hz,fun z hz=>by simp at hz,fun z hz=>by simp at hz,rfl,by simp,fun _=>by rw [r10];exact h2.f0 rfl⟩
  ·rw [r10,h2.f0 rfl];exact ⟨rfl,.inl ⟨rfl,rfl⟩⟩
  ·rw [r10,h2.f0 rfl];intro k hk;cases hk
 have hbud:=doF_bud (k:=900000000 + 20 * rem) hS.wf (c.h.dr.bu.mono (by omega)) J S mt
 have hnum:=doF_num D J S mt
 rw [hdo] at hbud hnum
 have hnJ : J.num<=100000000:=by have:=JD.kf hS.jd;have:=c.h.dr.bu.l;omega
 have hle:=hSI.hle
 have hms : (ms ++ [mt]).length = ms.length + 1:=by simp
 refine SdE.step he (h3.trans' t2 fun k hk hz=>?_) (c.h.after c.o hX t2 (fun k hk=>hk) hsd r1 r2 r3 r4 r5 r6 r7 r8 r9 (s':=s.did (L.length + 1)) (ms':=ms ++ [mt]) (fl':=[]) ?_ hdoc (fun k hk=>hk) (Doc.writ hSI c.o.doc.n0 c.o.doc.n1 (by rw [hms];omega)) hev (by rw [r11,hSI.ro,<- c.o.ro,hro]) (by simp only at hnum;omega) (fun _=>⟨rfl,_,hSI,by rw [hLl];exact d1,by rw [hLl,hms];exact d2⟩) (by rw [hms];simp at hlen ⊢;omega) (by rw [hLl,d1];omega) (by rw [hLl,d1];omega) (by rw [hLl,d2,<- hms];omega) (by rw [hLl,d2,<- hms];omega))
 ·rcases hz with hz | hz | hz
  ·exact hz ▸ c.h.zb
  ·exact c.h.zm k hz
  ·omega
 ·exact ⟨⟨ms ++ [mt],_,hSI.di,by simp,fun _=>Nat.le_refl _,by rw [hLl,d1];exact Int.le_refl _,hle⟩,hbud⟩
theorem Chg.fail {s : Sd} (c : Chg Z w b s ms fl rem p m Zd Zx Zm D L vh F n x j Y mv J S)
  {md : List Mt} (hro : S.ro = false) (hS : SI s.n D J S ms hd) (hh : s.held = hd) (hu : s.un = ms.length - hd) (hdo : doF D J S mt = (7,D',J',S')) (hmd : md = ms\/md = ms ++ [mt]) (hDI : DI s.n D' md hd) (hf : D.failed < D'.failed)
  (g1 : S'.M = S.M) (g2 : S'.cnt = S.cnt) (g3 : S'.node = S.node) (g4 : S'.every = S.every)
  (hX : StoX Zd Y w w2 x j p (n + 2) D' J' { S' with ro:=true }) (hb3 : Below w2.heap.size w2 w3) (hy : NewMu w3 w2.heap.size mt y) (hE : DoneDE w3 b s y.x.del y.x.k y.x.v y.s (D.failed < D'.failed\/D'.life = 0) e w') : StepE Z w b rem e w':=by
 obtain ⟨r,g,he,hr,hg,hsd,hgh,t⟩:=hE
 have hrt : r = true:=hr.2 (.inl hf)
 subst hrt
 obtain ⟨h1,h2,h3,_⟩:=c.behind hX
 have hlt:=c.lt
 have hfl : fl = []:=(c.o.wr hro).1
 subst hfl
 have hsz3:=hb3.size
 have hbw:=(c.h.lt b c.h.zb).2
 have hs12:=h3.size
 have hgw : g < w'.heap.size:=(Array.getElem?_eq_some_iff.1 hgh).1
 have t2 : Tr (fun k=>k = b\/Zm k\/w2.heap.size<=k) w2 w':=(below_tr hb3 _).trans (t.mono fun k hk hz=>.inl hz)
 have hd3 : DocIn Zm w' m s.n ms s.fl [] L vh F:=(h2.tr (below_tr hb3 (fun k=>w2.heap.size<=k)) (fun k hk hn=>by have:=hlt k hk;omega)).tr t (fun k hk hz=>c.h.b3 (hz ▸ hk))
 have hb3z : ∀ k,w3.heap.size<=k->w2.heap.size<=k:=fun k hk=>by omega
 have hyT : ModT w' [y]:=fun z hz q hq=>by
  rw [List.mem_singleton.1 hz] at hq
  obtain ⟨cs,hcs⟩:=own_heap hy.own q hq
  exact ⟨cs,t.heap hcs (fun hz=>by have:=hy.ge q hq;have hz : q = b:=hz;omega)⟩
 have hdoc : DocIn (fun k=>Zg Zm w2.heap.size k/\k < w'.heap.size) w' m s.n ms (.slice (some ⟨g,0,none⟩) 1 1) [mt] L vh [y]:=by
  refine DocIn.close ⟨hd3.mi.mono fun k hk=>.inl hk,hd3.mt,hd3.me,?_,fun k hk=>?_,fun z hz=>?_,fun z hz k hk=>?_,hyT,by simp [hy.e],by simp,fun h=>by cases h⟩
  ·refine ⟨rfl,.inr ⟨g,1,_,rfl,Nat.zero_le _,hgh,Nat.le_refl _,by unfold maxLen;omega,rfl,rfl⟩⟩
  ·obtain rfl : g = k:=Option.some.inj hk
   exact .inr (hb3z _ hg)
  ·rw [List.mem_singleton.1 hz]
   exact hy.rd.tr t (fun k hk hz=>by have:=hy.ge k hk;have hz : k = b:=hz;omega)
  ·rw [List.mem_singleton.1 hz] at hk
   exact .inr (hy.ge k hk)
 have hbud:=doF_bud (k:=900000000 + 20 * rem) hS.wf (c.h.dr.bu.mono (by omega)) J S mt
 have hnum:=doF_num D J S mt
 rw [hdo] at hbud hnum
 have hnJ : J.num<=100000000:=by have:=JD.kf hS.jd;have:=c.h.dr.bu.l;omega
 have hle:=hS.hle
 have hlen:=c.h.len
 refine SdE.step he (h3.trans' t2 fun k hk hz=>?_) (c.h.after c.o hX t2 (fun k hk=>hk) hsd rfl rfl rfl rfl rfl rfl rfl rfl rfl (ms':=ms) (fl':=[mt]) ?_ hdoc (fun k hk=>hk) ⟨g3.trans c.o.doc.node,g2.trans c.o.doc.cnt,g1.trans c.o.doc.M,c.o.doc.good,c.o.doc.n0,c.o.doc.n1,c.o.doc.len⟩ g4 rfl (by simp only at hnum;omega) (fun h=>by cases h) (by simp at hlen ⊢;omega) c.h.h0 c.h.h1 c.h.u0 c.h.u1)
 ·rcases hz with hz | hz | hz
  ·exact hz ▸ c.h.zb
  ·exact c.h.zm k hz
  ·omega
 ·refine ⟨⟨md,hd,hDI,?_,fun _=>?_,Int.le_of_eq hh,?_⟩,hbud⟩
  ·rcases hmd with rfl | rfl
   ·exact List.prefix_append _ _
   ·exact List.prefix_refl _
  ·rcases hmd with rfl | rfl
   ·exact Nat.le_refl _
   ·simp
  ·rcases hmd with rfl | rfl
   ·exact hle
   ·simp;omega
theorem Chg.wr {s : Sd} (c : Chg Z w b s ms fl rem p m Zd Zx Zm D L vh F n x j Y mv J S) (hro : S.ro = false) : WrPre D J S:=by
 obtain ⟨_,hd,hS,hh,hu⟩:=c.o.wr hro
 have hb:=c.h.dr.bu
 have hnum : J.num<=100000000:=by have:=JD.kf hS.jd;have:=hb.l;omega
 exact ⟨hS.wf,fun m hk hv=>jappend_wf hS.jd hS.wf (hb.mono (by omega)) (by omega) _ (encM_size m hk hv),hb.mono (by omega),by omega,by have:=hS.sz;omega,by have:=hS.roll;omega,by rw [hS.held];omega,by rw [hS.held,hS.cnt];have:=hS.hle;omega⟩
end Go.Proofs.YtilkdeghknjjhaaGreatDoor
namespace Go.Proofs.YtilkdeghknjjhaaGreatDoor
open Go.RowKit M Go.Maps
variable {w w2 X : World} {b p m x rem j : Nat} {s : Sd} {Z Zd Zx Zm Y : Nat->Prop} {ms fl : List Mt} {L F : List MuV} {vh mv : Value} {S : St}
theorem SdAt.reads (h : SdAt w b s) (hd : s.d = .pointer (some ⟨p,0,none⟩)) (hm : s.m = .pointer (some ⟨m,0,none⟩)) (hx : s.x = .pointer (some ⟨x,0,none⟩)) (hc : s.cl = false) :
  w.cell? ⟨b,0,none⟩ = some (.pointer (some ⟨p,0,none⟩))/\w.cell? ⟨b,4,none⟩ = some (.pointer (some ⟨x,0,none⟩))/\w.cell? ⟨b,5,none⟩ = some (.pointer (some ⟨m,0,none⟩))/\w.cell? ⟨b,9,none⟩ = some (.bool false)/\w.cell? ⟨b,10,none⟩ = some (.bool s.ro)/\w.cell? ⟨b,13,none⟩ = some (.string s.ctx) :=
 ⟨(h.cell 0).trans (congrArg some hd),(h.cell 4).trans (congrArg some hx),(h.cell 5).trans (congrArg some hm),(h.cell 9).trans (congrArg (fun z=>some (Value.bool z)) hc),(h.cell 10).trans rfl,(h.cell 13).trans rfl⟩
theorem chgPut {D : Dk} {n : Nat} {J : Jn} (c : Chg Z w b s ms fl rem p m Zd Zx Zm D L vh F n x j Y mv J S) (k v t : ByteArray) (hk : k.size<=1000000000) (hv : v.size<=1000000000) (ht : t.size<=1000000000) (X : World) (hX : Below w.heap.size w X) :
  Calls Tryz.prog 25 #[.pointer (some ⟨x,0,none⟩),.string k,.string v,.string t] X fun e w'=>e = .returned (.int .i64 (putF D J S k v t).1)/\StoX Zd Y X w' x j p (n + 2) (putF D J S k v t).2.1 (putF D J S k v t).2.2.1 (putF D J S k v t).2.2.2:=by
 have hlen:=c.h.len
 have hnn:=c.h.nn
 refine (sput_gen Zd Y x j p mv n D J S k v t X (c.o.sto.below hX) (fun h0=>c.wr ?_) hk hv ht (by omega) (by rw [c.o.doc.cnt];omega) (by rw [c.o.doc.cnt];omega) (c.o.doc.l6 k)).mono ?_
 ·rcases mutF_doc (k:=k) (v:=v) (c:=t) c.o.doc.node c.o.doc.cnt c.o.doc.n0 c.o.doc.n1 c.o.doc.len with ⟨_,h2⟩ | ⟨_,_,h2⟩ | ⟨_,_,_,h2⟩ | ⟨_,_,h4,_⟩
  ·rw [h2] at h0;cases h0
  ·rw [h2] at h0;cases h0
  ·rw [h2] at h0;cases h0
  ·exact h4
 ·rintro e w' ⟨he,hw⟩
  exact ⟨he,hw⟩
theorem Chg.noCall {D : Dk} {n : Nat} {J : Jn} (c : Chg Z w b s ms fl rem p m Zd Zx Zm D L vh F n x j Y mv J S) {E f : Int} (h7 : E ≠ 7) (hX : StoX Zd Y w w2 x j p (n + 2) D J S) (hb : Below w2.heap.size w2 X) :
  Calls Tryz.prog 112 #[.pointer (some ⟨b,0,none⟩),.int .i64 E,.int .i64 E,.int .i64 f] X fun e w'=>StepE Z w b rem e w':=by
 obtain ⟨h1,h2,h3,Zd',hD⟩:=c.behind hX
 refine (refused_any Zd' b p s D E E f X (h1.below hb) c.h.d (hD.below hb)).mono ?_
 rintro e w' ⟨he,hs,t⟩
 have hr : refB (D.life == 0) E E = false:=by unfold refB;simp [h7]
 rw [hr] at he hs
 have hsz:=hb.size
 refine c.no hX ((below_tr hb _).trans (t.mono fun k _ hk=>.inl hk)) ?_ (by rw [he];simp)
 rw [Bool.or_false] at hs
 exact hs
theorem Chg.doneCall {D : Dk} {n : Nat} {J : Jn} (c : Chg Z w b s ms fl rem p m Zd Zx Zm D L vh F n x j Y mv J S) {mt : Mt} (hro : S.ro = false) (hm : MtAt s.n S.M S.cnt mt) {cv : Value}
  (hX : StoX Zd Y w w2 x j p (n + 2) (stopF (doF D J S mt)).2.1 (stopF (doF D J S mt)).2.2.1 (stopF (doF D J S mt)).2.2.2) (hb : Below w2.heap.size w2 X) (hy : NewMu X w2.heap.size mt ⟨mt.mu,cv⟩) :
  Calls Tryz.prog 113 #[.pointer (some ⟨b,0,none⟩),.agg #[.bool mt.del,.string mt.k,.string mt.v,cv],.int .i64 (stopF (doF D J S mt)).1,.int .i64 D.failed,.int .i64 (D.cap - D.bytes)] X fun e w'=>StepE Z w b rem e w':=by
 obtain ⟨hfl,hd,hS,hh,hu⟩:=c.o.wr hro
 have hlen:=c.h.len
 have hres:=doF_res (n:=900000000) hS (c.h.dr.bu.mono (by omega)) (Nat.le_refl _) hm
 have hlt:=c.lt
 have hsz:=hb.size
 obtain ⟨Q,hQ⟩ : ∃ Q,doF D J S mt = Q:=⟨_,rfl⟩
 rw [hQ] at hres hX ⊢
 cases hres with
 | full hf =>
  have e6 : stopF (6,D,J,S) = (6,D,J,S):=stopF_no (by decide)
  rw [e6] at hX ⊢
  obtain ⟨h1,h2,h3,Zd',hD⟩:=c.behind hX
  refine (done_no_any Zd' b p s D mt.del mt.k mt.v cv 6 D.failed (D.cap - D.bytes) X (h1.below hb) c.h.d (hD.below hb) (by decide) (by decide)).mono ?_
  rintro e w' ⟨he,hb2⟩
  exact c.no hX ((below_tr hb _).trans (below_tr hb2 _)) ((h1.below hb).below hb2) (by rw [he];simp [hf])
 | done D' J' S' k1 k2 k3 k4 k5 =>
  have e0 : stopF (0,D',J',S') = (0,D',J',S'):=stopF_no (by decide)
  rw [e0] at hX ⊢
  obtain ⟨h1,h2,h3,Zd',hD⟩:=c.behind hX
  obtain ⟨hLl,hFl⟩:=h2.len
  obtain ⟨av,cq,hcv⟩:=own_shape hy.own
  have hdx:=h2.tr (below_tr hb (fun k=>w2.heap.size<=k)) (fun k hk hn=>by have:=hlt k hk;have:=h3.size;omega)
  refine (done_ok_any Zd' (Zg Zm w2.heap.size) b p m s D' s.n L vh ⟨mt.mu,cv⟩ av _ cq D.failed (D.cap - D.bytes) X (h1.below hb) c.h.d c.h.mm (hD.below hb) (hdx.mi.mono fun k hk=>.inl hk) (hy.t hdx.mt) (fun k hk=>.inr (by omega)) hcv hy.rd (fun k hk=>.inr (hy.ge k hk)) (by omega) c.h.u0 (by have:=c.h.u1;omega)).mono ?_
  intro e w' hE
  exact c.done hro hS hh hu hQ k1 k4 hX hb hy hE
 | fail D' J' S' md k1 k2 k3 k4 k5 k6 k7 k8 k9 k10 =>
  have e7 : stopF (7,D',J',S') = (7,D',J',{ S' with ro:=true }):=rfl
  rw [e7] at hX ⊢
  obtain ⟨h1,h2,h3,Zd',hD⟩:=c.behind hX
  refine (done_disk_any Zd' b p s D' mt.del mt.k mt.v cv D.failed (D.cap - D.bytes) X (h1.below hb) c.h.d (hD.below hb)).mono ?_
  intro e w' hE
  exact c.fail (y:=⟨mt.mu,cv⟩) hro hS hh hu hQ k1 k2 k3 k5 k6 k7 k8 hX hb hy hE
theorem chgPutEnd {D : Dk} {n : Nat} {J : Jn} (c : Chg Z w b s ms fl rem p m Zd Zx Zm D L vh F n x j Y mv J S) (k v t : ByteArray)
  (hX : StoX Zd Y w w2 x j p (n + 2) (putF D J S k v t).2.1 (putF D J S k v t).2.2.1 (putF D J S k v t).2.2.2) :
  (putE s.n (ms.map Mt.mu) k v t s.ro ≠ 0->∀ X,Below w2.heap.size w2 X->Calls Tryz.prog 112 #[.pointer (some ⟨b,0,none⟩),.int .i64 (putF D J S k v t).1,.int .i64 (putE s.n (ms.map Mt.mu) k v t s.ro),.int .i64 D.failed] X fun e w'=>StepE Z w b rem e w') /\
  (putE s.n (ms.map Mt.mu) k v t s.ro = 0->∀ X cv,Below w2.heap.size w2 X->X.ownsRow w2.heap.size 183 2 cv (clkT t).length (cellsE (clkT t))->Calls Tryz.prog 113 #[.pointer (some ⟨b,0,none⟩),.agg #[.bool false,.string k,.string v,cv],.int .i64 (putF D J S k v t).1,.int .i64 D.failed,.int .i64 (D.cap - D.bytes)] X fun e w'=>StepE Z w b rem e w'):=by
 have hp:=put_doc (D:=D) (J:=J) (k:=k) (v:=v) (c:=t) c.o.doc
 rw [c.o.ro] at hp
 rcases hp with ⟨h1,h2,h3⟩ | ⟨h1,h2,h3,h4⟩
 ·rw [h3] at hX ⊢
  exact ⟨fun _ X hb=>c.noCall h2 hX hb,fun h=>absurd h h1⟩
 ·rw [h4] at hX ⊢
  refine ⟨fun h=>absurd h1 h,fun _ X cv hb ho=>?_⟩
  exact c.doneCall (c.o.ro.trans h2) h3 hX hb ⟨rfl,ho⟩
theorem chgDelEnd {D : Dk} {n : Nat} {J : Jn} (c : Chg Z w b s ms fl rem p m Zd Zx Zm D L vh F n x j Y mv J S) (k t : ByteArray)
  (hX : StoX Zd Y w w2 x j p (n + 2) (delF D J S k t).2.1 (delF D J S k t).2.2.1 (delF D J S k t).2.2.2) :
  (delE s.n (ms.map Mt.mu) k t s.ro ≠ (true,0)->∀ X,Below w2.heap.size w2 X->Calls Tryz.prog 112 #[.pointer (some ⟨b,0,none⟩),.int .i64 (delF D J S k t).1,.int .i64 (delE s.n (ms.map Mt.mu) k t s.ro).2,.int .i64 D.failed] X fun e w'=>StepE Z w b rem e w') /\
  (delE s.n (ms.map Mt.mu) k t s.ro = (true,0)->∀ X cv,Below w2.heap.size w2 X->X.ownsRow w2.heap.size 183 2 cv (clkT t).length (cellsE (clkT t))->Calls Tryz.prog 113 #[.pointer (some ⟨b,0,none⟩),.agg #[.bool true,.string k,.string ⟨#[]⟩,cv],.int .i64 (delF D J S k t).1,.int .i64 D.failed,.int .i64 (D.cap - D.bytes)] X fun e w'=>StepE Z w b rem e w'):=by
 have hp:=del_doc (D:=D) (J:=J) (k:=k) (c:=t) c.o.doc
 rw [c.o.ro] at hp
 rcases hp with ⟨h1,h2,h3⟩ | ⟨h1,h2,h3,h4⟩
 ·rw [h3] at hX ⊢
  exact ⟨fun _ X hb=>c.noCall h2 hX hb,fun h=>absurd h h1⟩
 ·rw [h4] at hX ⊢
  refine ⟨fun h=>absurd h1 h,fun _ X cv hb ho=>?_⟩
  exact c.doneCall (c.o.ro.trans h2) h3 hX hb ⟨rfl,ho⟩
theorem chgDel {D : Dk} {n : Nat} {J : Jn} (c : Chg Z w b s ms fl rem p m Zd Zx Zm D L vh F n x j Y mv J S) (k t : ByteArray) (hk : k.size<=1000000000) (ht : t.size<=1000000000) (X : World) (hX : Below w.heap.size w X) :
  Calls Tryz.prog 31 #[.pointer (some ⟨x,0,none⟩),.string k,.string t] X fun e w'=>e = .returned (.int .i64 (delF D J S k t).1)/\StoX Zd Y X w' x j p (n + 2) (delF D J S k t).2.1 (delF D J S k t).2.2.1 (delF D J S k t).2.2.2:=by
 have hlen:=c.h.len
 have hnn:=c.h.nn
 refine (sdel_gen Zd Y x j p mv n D J S k t X (c.o.sto.below hX) (fun h0=>c.wr ?_) hk ht (by omega) (by rw [c.o.doc.cnt];omega) (by rw [c.o.doc.cnt];omega) (c.o.doc.l6 k)).mono ?_
 ·rcases mutF_doc (k:=k) (v:=⟨#[]⟩) (c:=t) c.o.doc.node c.o.doc.cnt c.o.doc.n0 c.o.doc.n1 c.o.doc.len with ⟨_,h2⟩ | ⟨_,_,h2⟩ | ⟨_,_,_,h2⟩ | ⟨_,_,h4,_⟩
  ·rw [h2] at h0;cases h0
  ·rw [h2] at h0;cases h0
  ·rw [h2] at h0;cases h0
  ·exact h4
 ·rintro e w' ⟨he,hw⟩
  exact ⟨he,hw⟩
end Go.Proofs.YtilkdeghknjjhaaGreatDoor
