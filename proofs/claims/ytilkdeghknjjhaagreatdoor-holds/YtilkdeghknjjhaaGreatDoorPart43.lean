/- A part of the proof. -/
import Derived.Lib.OwnBridge
import Derived.Test.YtilkdeghknjjhaaGreatDoorPart41
set_option maxRecDepth 20000
set_option maxHeartbeats 3200000
set_option linter.unusedVariables false
namespace Go.Proofs.YtilkdeghknjjhaaGreatDoor
open Go.RowKit M
theorem infoI : (Tryz.prog.info? 3).map (fun i=>(i.zero,i.size,i.bytes)) = some (some (.int .i64 0),1,8):=by kernel_rfl
theorem cut_fnm (i : Nat) : Lib.trimPrefix (fnm i).data.toList ((⟨#[100,97,116,97,46]⟩ : ByteArray)).data.toList = Lib.itoa i/\Lib.hasPrefix (fnm i).data.toList ((⟨#[100,97,116,97,46]⟩ : ByteArray)).data.toList = true:=by
 have e : (fnm i).data.toList = [100,97,116,97,46] ++ Lib.itoa i:=by
  have:=bs_app (⟨#[100,97,116,97,46]⟩ : ByteArray) (ba (Lib.itoa i))
  rw [bs_ba] at this
  exact this
 have hp : Lib.hasPrefix (fnm i).data.toList ((⟨#[100,97,116,97,46]⟩ : ByteArray)).data.toList = true:=by
  rw [e];unfold Lib.hasPrefix;simp
 refine ⟨?_,hp⟩
 unfold Lib.trimPrefix
 rw [if_pos hp,e]
 simp
def numsI (is : List Nat) : List Int:=is.map Int.ofNat
theorem numsI_snoc (is : List Nat) (k : Nat) (h : k < is.length) : numsI (is.take (k + 1)) = numsI (is.take k) ++ [(is[k] : Int)]:=by
 unfold numsI
 rw [List.take_succ_eq_append_getElem h,List.map_append];rfl
theorem cellsI_snoc (l : List Int) (x : Int) : cellsI (l ++ [x]) = cellsI l ++ [.int .i64 x]:=by simp [cellsI]
theorem numbers_any (is : List Nat) (v : Value) (w : World) (h : w.ownsRow 0 9 1 v is.length (cellsX (is.map fnm))) (hl : is.length<=1000000000) (hi : ∀ i ∈ is,1<=i/\i < 1000000000) (hv : Vars w) :
  Calls Tryz.prog 146 #[v] w fun e w'=>∃ v',e = .returned v'/\w'.ownsRow w.heap.size 3 1 v' is.length (cellsI ((numsI is).mergeSort fun x y=>decide (x<=y)))/\Below w.heap.size w w':=by
 obtain ⟨i0,hinf,hz0,hz1,hz2⟩:=info_parts infoI
 obtain ⟨a,cap,rfl,hlc,hc,hA⟩:=own_cells h
 have hl1 : (is.length : Int)<=1000000000:=by omega
 have HV : Hid (∀ X,Below w.heap.size w X->Vars X):=fun X hX=>hv.below hX
 have HN : Hid (∀ k (hk : k < is.length),∃ g,a = some ⟨g,0,none⟩/\w.cell? ⟨g,k,none⟩ = some (.string (fnm is[k]))/\1<=is[k]/\is[k] < 1000000000):=fun k hk=>by
  obtain ⟨g,rfl,_,hcell⟩:=hA (by omega)
  refine ⟨g,rfl,hcell k _ ?_,hi _ (List.getElem_mem hk)⟩
  unfold cellsX
  simp [hk]
 clear h hA hlc hc hi hv
 go_enter Tryz.func146,Tryz.ntmps146
 go_wp2_with fail
 go_loopw [3,12] (fun u i wr=>∃ k : Nat,k<=is.length/\i = .int .i64 k/\wr.ownsRow w.heap.size 3 1 u k (cellsI (numsI (is.take k)))/\Below w.heap.size w wr) (fun _ i _=>is.length - (intOf i).toNat)
 case atStart=>exact ⟨0,Nat.zero_le _,rfl,World.ownsRow_nil _ _ _ _,Below.refl _ _⟩
 case round =>
  obtain ⟨k,hk,rfl,ho,hb⟩:=hrel
  obtain ⟨a3,cap3,hu3⟩:=own_shape ho
  subst hu3
  by_cases hlt : k < is.length
  ·have q1 : (k : Int) < (is.length : Int):=by omega
   have q0 : (0 : Int)<=(k : Int):=by omega
   obtain ⟨g,rfl,hcell,i1,i2⟩:=HN.out k hlt
   have HS : Hid (numsI (is.take (k + 1)) = numsI (is.take k) ++ [(is[k] : Int)]):=numsI_snoc is k hlt
   obtain ⟨i,hie⟩ : ∃ i,is[k] = i:=⟨_,rfl⟩
   rw [hie] at hcell i1 i2 HS
   have e0:=cell_later hb hcell
   have hCut:=Tryz.strings_CutPrefix (fnm i) (⟨#[100,97,116,97,46]⟩ : ByteArray) wr
   rw [(cut_fnm i).1,(cut_fnm i).2] at hCut
   have hAt:=Atoi_any (ba (Lib.itoa i)) wr (by have:=itoa_size (n:=i) (by omega);omega) (HV.out wr hb)
   rw [bs_ba,show atoiV (Lib.itoa i) = (i : Int) by unfold atoiV;rw [atoi_itoa i (by omega)],show atoiOK (Lib.itoa i) = true by unfold atoiOK;rw [atoi_itoa i (by omega)]] at hAt
   replace hAt : Calls Tryz.prog 197 #[.string (ba (Lib.itoa i))] wr fun e w'=>e = .returned (.tuple #[.int .i64 i,.nilIface])/\Below wr.heap.size wr w':=hAt.mono fun e w' ⟨er,he,hb',hr⟩=>by
    have : er = .nilIface:=by simpa using hr
    exact ⟨by rw [he,this],hb'⟩
   have HFn : Hid (∀ X,Below w.heap.size w X->Calls Tryz.prog 125 #[.int .i64 i] X fun e w'=>e = .returned (.string (fnm i))/\Below X.heap.size X w'):=fun X hX=>fileName_any i X (by omega) (HV.out X hX)
   have j0 : (0 : Int) < (i : Int):=by omega
   obtain ⟨nmv,hnm⟩ : ∃ x,fnm i = x:=⟨_,rfl⟩
   obtain ⟨nt,hnt⟩ : ∃ x,ba (Lib.itoa i) = x:=⟨_,rfl⟩
   rw [hnm] at e0 hCut HFn
   rw [hnt] at hAt
   replace hCut : Calls Tryz.prog 196 #[.string nmv,.string (⟨#[100,97,116,97,46]⟩ : ByteArray)] wr fun e w'=>e = .returned (.tuple #[.string nt,.bool true])/\w' = wr:=by
    have e1 : (⟨(Lib.itoa i).toArray⟩ : ByteArray) = nt:=hnt
    rw [e1] at hCut
    exact hCut
   clear hcell hie hnm hnt
   clear HN HV
   go_wp2_with fail
   refine hCut.mono ?_
   rintro e w1 ⟨rfl,rfl⟩
   go_wp2_with fail
   refine hAt.mono ?_
   rintro e w2 ⟨rfl,hb2⟩
   have hb3 : Below w.heap.size w w2:=belowN hb hb2
   have hb23 : Below w1.heap.size w1 w2:=hb2
   go_wp2_with fail
   refine (HFn.out w2 hb3).mono ?_
   rintro e w3 ⟨rfl,hb4⟩
   have ho3:=own_below ho (belowN hb23 hb4)
   have hb5 : Below w.heap.size w w3:=belowN hb3 hb4
   have hs5:=hb5.size
   have hlen2 : (cellsI (numsI (is.take k))).length = k:=by rw [cellsI_len];unfold numsI;simp;omega
   clear hb hb2 hb3 hb23 hb4 ho hCut hAt HFn e0
   go_wp2_with (first
    | (at_builtin;refine wpList_append_own _ rfl _ _ 42 rfl w.heap.size 3 i0 (.int .i64 0) 1 8 Tryz.underlying42 hinf hz0 hz1 hz2 rfl (by decide) _ _ _ rfl (ho3.alloc _) ⟨w3.heap.size,0,none⟩ 1 1 [.int .i64 i] rfl rfl (cells_one_new _ _ _) (by simp;rfl) (by unfold maxLen;omega) (by omega) (by simp;omega) ?_))
   intro v' w4 hown' hgrow _
   have hb6 : Below w.heap.size w w4:=(hb5.alloc (by omega) _).grown hgrow (by simp;omega) (fun q hq=>(ho3.lt q hq).1)
   go_wp2
   go_roundw
   case rel=>exact ⟨k + 1,by omega,by go_num,by rw [HS.out,cellsI_snoc];exact hown',hb6⟩
   case measure=>simp [intOf];omega
  ·have q1 : ¬ (k : Int) < (is.length : Int):=by omega
   have hke : k = is.length:=by omega
   subst hke
   rw [List.take_length] at ho
   have hmap : cellsI (numsI is) = (numsI is).map (Value.int .i64):=rfl
   have hSort : Calls Tryz.prog 198 #[.slice a3 is.length cap3] wr fun e w'=>e = .returned (.tuple #[])/\w'.ownsRow w.heap.size 3 1 (.slice a3 is.length cap3) is.length (cellsI ((numsI is).mergeSort fun x y=>decide (x<=y)))/\Below w.heap.size w w':=by
    by_cases h0 : is = []
    ·subst h0
     refine (Any.slices_Sort_int_none Tryz.lays189 a3 cap3 wr).mono ?_
     rintro e w' ⟨rfl,rfl⟩
     exact ⟨rfl,by rw [show ((numsI []).mergeSort fun x y=>decide (x<=y)) = numsI [] by simp [numsI]];exact ho,hb⟩
    ·have hne : (.slice a3 is.length cap3 : Value) ≠ .slice none 0 0:=fun e=>by
      injection e with _ e2 _
      exact h0 (List.length_eq_zero_iff.1 e2)
     rw [hmap] at ho
     obtain ⟨g,cap,he,hg1,hg2,hg3,hg4,hg5,hH⟩:=Lib.holds_of_ownsRow ho hne
     injection he with he1 he2 he3
     subst he1
     subst he3
     have:=Tryz.slices_Sort_int g 0 cap3 (numsI is) wr hH hg2 (by rw [hg5];omega)
     rw [hg5] at this
     refine this.mono ?_
     rintro e w' ⟨rfl,q,os,rfl⟩
     have hlen : ((numsI is).mergeSort fun x y=>decide (x<=y)).length = is.length:=by rw [List.length_mergeSort,hg5]
     have o1:=Lib.ownsRow_putRow (q:=q) (k:=is.length) ho hlen (Nat.le_refl _)
     rw [List.take_of_length_le (by omega)] at o1
     have b1:=Lib.below_putRow (q:=q) (d:=((numsI is).mergeSort fun x y=>decide (x<=y)).toArray) (enc:=Value.int .i64) hb hg1
     have bg : ∀ W : World,Below W.heap.size W (Sort.grow W os):=fun W=>⟨rfl,rfl,rfl,by simp,fun k hk=>Sort.heap_grow_old _ _ hk⟩
     exact ⟨rfl,own_below o1 (bg _),b1.trans ((bg _).mono b1.size)⟩
   clear HN HV
   go_wp2_with fail
   refine hSort.mono ?_
   rintro e w2 ⟨rfl,ho2,hb2⟩
   go_wp2
   go_ret
   exact ⟨_,rfl,ho2,hb2⟩
end Go.Proofs.YtilkdeghknjjhaaGreatDoor
namespace Go.Proofs.YtilkdeghknjjhaaGreatDoor
open Go.RowKit M Go.Maps
theorem runS_cnt {nd : Int} {ms : List Mt} {S : St} (h : GoodM nd S.M S.cnt ms) : (runS S ms).cnt = S.cnt + ms.length:=by rw [(good_ok ms S h).2]
theorem file_any (Y : Nat->Prop) (p s : Nat) (dv jv mv mg : Value) (n : Nat) (S : St) (t : ByteArray) (nd : Int) (ms : List Mt) (tl : Bs) (w : World) (h : StIn Y w s dv jv mv n S) (hp : RepAt w p s mg) (hpY : ¬ Y p) (ht : bs t = encs ms ++ tl) (hsz : t.size<=1000000000) (htl : Tail tl) (hms : ∀ m ∈ ms,m.OK) (hg : GoodM nd S.M S.cnt ms) (hn : n + ms.length < 100000000000) (hc0 : 0<=S.cnt) (hc1 : S.cnt + ms.length<=4611686018427387000) :
  Calls Tryz.prog 200 #[.pointer (some ⟨p,0,none⟩),.string t] w fun e w'=>e = .returned (.int .i64 (encs ms).length)/\(∃ mg',RepAt w' p s mg')/\(∃ mv' n',n'<=n + ms.length + 1/\StIn (Yn Y w.heap.size w'.heap.size) w' s dv jv mv' n' (runS S ms))/\Tr (fun k=>k = p\/Y k) w w':=by
 have hpw : p < w.heap.size:=(Array.getElem?_eq_some_iff.1 hp).1
 obtain ⟨W,hW,HB,HR,HS,HP⟩ : ∃ W,w.alloc (.cells #[.string t,.int .i64 0,.bool false] 282) = W/\Hid (Below w.heap.size w W/\W.heap.size = w.heap.size + 1)/\Hid (RdrAt W w.heap.size t ⟨0,false⟩)/\Hid (StIn Y W s dv jv mv n S)/\Hid (RepAt W p s mg):=by
  have hb : Below w.heap.size w (w.alloc (.cells #[.string t,.int .i64 0,.bool false] 282)):=(Below.refl _ _).alloc (Nat.le_refl _) _
  exact ⟨_,rfl,⟨hb,by simp⟩,heap_alloc_new w _,h.below hb,hp.below hb⟩
 have hlt : (bs t).length = t.size:=bs_len t
 have hYw : ∀ k,Y k->k < w.heap.size:=h.lt
 have hgY : ¬ Y w.heap.size:=fun hy=>by have:=hYw _ hy;omega
 have hgp : w.heap.size ≠ p:=by omega
 have HE : Hid (bs t = encs ms ++ tl/\t.size<=1000000000):=⟨ht,hsz⟩
 have HPw : Hid (p < w.heap.size):=hpw
 have l0 : (0 : Int)<=(t.size : Int):=by omega
 have l1 : (t.size : Int)<=1000000000:=by omega
 have HFin : Hid (∀ X mvx nx,StIn (Yn Y W.heap.size X.heap.size) X s dv jv mvx nx (runS S ms)->Tr (fun k=>k = p\/k = w.heap.size\/Y k) w X->StIn (Yn Y w.heap.size X.heap.size) X s dv jv mvx nx (runS S ms)/\Tr (fun k=>k = p\/Y k) w X):=fun X mvx nx h1 h2=>by
  refine ⟨h1.zone (fun k hk=>hk.imp (fun h=>h) (fun hh=>⟨by have:=HB.out.2;omega,hh.2⟩)) (fun k hk=>?_),h2.mono fun k hk hz=>?_⟩
  ·rcases hk with hk | hk
   ·exact Nat.lt_of_lt_of_le (hYw k hk) h2.size
   ·exact hk.2
  ·rcases hz with hz | hz | hz
   ·exact .inl hz
   ·omega
   ·exact .inr hz
 clear h hp ht hsz hpw
 go_enter Tryz.func200,Tryz.ntmps200
 go_upto_region 2 with (fail)
 clear hW
 go_wp2_with fail
 go_loopw [6] (fun u wr=>∃ (done rest : List Mt) (mvx mgx : Value) (nx : Nat),ms = done ++ rest/\u = .int .i64 (encs done).length/\nx = n + done.length/\Hid (StIn (Yn Y W.heap.size wr.heap.size) wr s dv jv mvx nx (runS S done))/\Hid (RepAt wr p s mgx)/\Hid (RdrAt wr w.heap.size t ⟨(encs done).length,false⟩)/\Hid (Tr (fun k=>k = p\/k = w.heap.size\/Y k) w wr)) (fun u _=>t.size - (intOf u).toNat)
 case atStart=>exact ⟨[],ms,mv,mg,n,rfl,rfl,rfl,by show StIn _ _ _ _ _ _ _ _;exact HS.out.wide W.heap.size,HP.out,HR.out,below_tr HB.out.1 _⟩
 case round =>
  obtain ⟨done,rest,mvx,mgx,nx,hdr,rfl,rfl,HSx,HPx,HRx,HTx⟩:=hrel
  have hsx : W.heap.size<=wr.heap.size:=by
   have:=HTx.out.size
   have h1:=HSx.out.lt s HSx.out.ys
   have h2:=HRx.out
   have h3 : w.heap.size < wr.heap.size:=(Array.getElem?_eq_some_iff.1 h2).1
   have:=HB.out.2;omega
  have hgY' : ¬ Yn Y W.heap.size wr.heap.size w.heap.size:=fun hy=>hy.elim hgY (fun hh=>by have:=HB.out.2;omega)
  have hpY' : ¬ Yn Y W.heap.size wr.heap.size p:=fun hy=>hy.elim hpY (fun hh=>by have:=HB.out.2;have:=HPw.out;omega)
  have hpx : p < wr.heap.size:=by have:=HPw.out;have:=HTx.out.size;omega
  have hgx : w.heap.size < wr.heap.size:=(Array.getElem?_eq_some_iff.1 HRx.out).1
  have hgd : GoodM nd S.M S.cnt done:=by rw [hdr] at hg;exact ((good_app done rest S.M S.cnt).1 hg).1
  have hcnt:=runS_cnt hgd
  have hlen : ms.length = done.length + rest.length:=by rw [hdr,List.length_append]
  have HT3 : Hid (∀ w2 mv2 n2 S2,StIn (Yn (Yn Y W.heap.size wr.heap.size) wr.heap.size w2.heap.size) w2 s dv jv mv2 n2 S2->Tr (Zr (Yn Y W.heap.size wr.heap.size) w.heap.size p) wr w2->StIn (Yn Y W.heap.size w2.heap.size) w2 s dv jv mv2 n2 S2/\Tr (fun k=>k = p\/k = w.heap.size\/Y k) w w2):=fun w2 mv2 n2 S2 h1 h2=>by
   refine ⟨h1.zone (fun k hk=>?_) (fun k hk=>?_),HTx.out.trans' h2 (fun k hk hz=>?_)⟩
   ·rcases hk with (hk | hk) | hk
    ·exact .inl hk
    ·exact .inr ⟨hk.1,Nat.lt_of_lt_of_le hk.2 h2.size⟩
    ·exact .inr ⟨Nat.le_trans hsx hk.1,hk.2⟩
   ·rcases hk with hk | hk
    ·have:=hYw k hk
     have h3:=HTx.out.size
     have h4:=h2.size
     omega
    ·exact hk.2
   ·rcases hz with hz | hz | hz | hz
    ·exact .inr (.inl hz)
    ·exact .inl hz
    ·exact .inr (.inr hz)
    ·have:=HB.out.2;omega
  have c1 : wr.cell? ⟨w.heap.size,1,none⟩ = some (.int .i64 (encs done).length):=(HRx.out.cell 1).trans rfl
  have hfits : (encs done).length<=t.size:=by
   have : (bs t).length = (encs ms).length + tl.length:=by rw [HE.out.1,List.length_append]
   rw [hdr,encs_app,List.length_append] at this
   omega
  cases rest with
  | cons m rest =>
   have hbt : bs t = encs done ++ (encB m ++ (encs rest ++ tl)):=by rw [HE.out.1,hdr,encs_app,encs_cons];simp
   have hmk:=mark_at (encs done) (encs rest ++ tl) m
   have hmo : m.OK:=hms m (by rw [hdr];simp)
   have hmut:=rmut_at (encs done) m (encs rest ++ tl) hmo
   rw [<- hbt] at hmk hmut
   obtain ⟨eb,er,ehe,_⟩:=enc_head m
   have hlt2 : (encs done).length < t.size:=by
    have : (bs t).length = (encs done).length + ((encB m).length + ((encs rest).length + tl.length)):=by rw [hbt];simp
    rw [ehe,List.length_cons] at this
    omega
   have hok : okS S ms:=(good_ok ms S hg).1
   rw [hdr] at hok
   have hok2:=((okS_app done (m :: rest) S).1 hok).2.1
   have hrec:=record_any (Yn Y W.heap.size wr.heap.size) w.heap.size p s dv jv mvx mgx (n + done.length) (runS S done) t ⟨(encs done).length,false⟩ m.del wr HSx.out HRx.out HPx.out ⟨HE.out.2,hfits⟩ hgY' hpY' hgp hgx hpx (by rw [hmk]) (by rw [hlen] at hn;simp at hn;omega) (by rw [hcnt];omega) (by rw [hcnt];rw [hlen] at hc1;simp at hc1;omega)
   rw [hmk] at hrec
   simp only at hrec
   rw [hmut] at hrec
   have hrf : recF (runS S done) (m,⟨(encs done).length + (encB m).length,false⟩) = (true,runS S (done ++ [m])):=by
    unfold recF
    rw [if_neg (by simp),runS_app]
    exact Prod.ext hok2 rfl
   rw [hrf] at hrec
   have hel : (encs (done ++ [m])).length = (encs done).length + (encB m).length:=by rw [encs_app,List.length_append];congr 1;show (encB m ++ []).length = _;rw [List.append_nil]
   have q1 : ((encs done).length : Int) < (t.size : Int):=by omega
   obtain ⟨A,hA⟩ : ∃ A,(encs done).length = A:=⟨_,rfl⟩
   have HEnd : Hid (ms = (done ++ [m]) ++ rest/\(done ++ [m]).length = done.length + 1):=⟨by rw [hdr];simp,by simp⟩
   have HA : Hid ((encs done).length = A):=hA
   rw [hA] at c1 q1 hrec
   have HN : Hid ((encs (done ++ [m])).length = A + (encB m).length/\A < t.size/\0 < (encB m).length):=⟨by rw [hel,hA],by omega,by rw [ehe];simp⟩
   clear HSx HPx HRx HTx hgY' hpY' hpx hgx hgd hcnt hlen hfits hbt hmk hmut hlt2 hok hok2 hrf hel hA hdr hmo ehe
   go_wp2_with fail
   refine hrec.mono ?_
   rintro e w2 ⟨rfl,hR2,hP2,⟨mv2,hS2⟩,hT2⟩
   obtain ⟨hS3,hT3⟩:=HT3.out w2 mv2 _ _ hS2 hT2
   have d1 : w2.cell? ⟨w.heap.size,1,none⟩ = some (.int .i64 ((A + (encB m).length : Nat) : Int)):=(hR2.cell 1).trans rfl
   obtain ⟨A2,hA2⟩ : ∃ A2,A + (encB m).length = A2:=⟨_,rfl⟩
   have HN2 : Hid ((encs (done ++ [m])).length = A2/\(encs done).length < A2/\(encs done).length < t.size):=⟨HN.out.1.trans hA2,by have:=HN.out.2.2;have:=HN.out.2.1;have:=HA.out;omega,by have:=HN.out.2.1;have:=HA.out;omega⟩
   rw [hA2] at d1 hR2
   have HX : Hid (StIn (Yn Y W.heap.size w2.heap.size) w2 s dv jv mv2 (n + done.length + 1) (runS S (done ++ [m]))/\RdrAt w2 w.heap.size t ⟨A2,false⟩/\RepAt w2 p s (.pointer none)/\Tr (fun k=>k = p\/k = w.heap.size\/Y k) w w2):=⟨hS3,hR2,hP2,hT3⟩
   clear hS2 hT2 hS3 hT3 hR2 hP2 hA2 hrec HT3 HN c1
   go_wp2
   go_roundw
   case rel=>exact ⟨done ++ [m],rest,mv2,.pointer none,_,HEnd.out.1,by rw [HN2.out.1],rfl,by rw [HEnd.out.2];exact HX.out.1,HX.out.2.2.1,by rw [HN2.out.1];exact HX.out.2.1,HX.out.2.2.2⟩
   case measure=>have:=HN2.out;simp [intOf];omega
  | nil =>
   rw [List.append_nil] at hdr
   subst hdr
   by_cases htl0 : tl = []
   ·have hAt : (encs ms).length = t.size:=by
     have:=HE.out.1
     rw [htl0,List.append_nil] at this
     rw [<- hlt,this]
    have q1 : ¬ ((encs ms).length : Int) < (t.size : Int):=by omega
    obtain ⟨e1,e2⟩:=HFin.out wr mvx _ HSx.out HTx.out
    have HG : Hid (RepAt wr p s mgx):=HPx.out
    have HG2 : Hid ((∃ mv' n',n'<=n + ms.length + 1/\StIn (Yn Y w.heap.size wr.heap.size) wr s dv jv mv' n' (runS S ms))/\Tr (fun k=>k = p\/Y k) w wr):=⟨⟨_,_,by omega,e1⟩,e2⟩
    clear e1 e2 HSx HPx HRx HTx HT3 HFin HE hg hgd hcnt hlen hfits hAt htl0
    go_wp2
    go_ret
    exact ⟨rfl,⟨_,HG.out⟩,HG2.out.1,HG2.out.2⟩
   ·have htp : 0 < tl.length:=List.length_pos_iff.2 htl0
    have hAt : (encs ms).length < t.size:=by
     have h1 : (bs t).length = (encs ms).length + tl.length:=by rw [HE.out.1,List.length_append]
     omega
    have q1 : ((encs ms).length : Int) < (t.size : Int):=by omega
    obtain ⟨gone,hm1,hm2⟩:=tail_short (encs ms) tl htl htl0
    rw [<- HE.out.1] at hm1 hm2
    have hrec:=record_any (Yn Y W.heap.size wr.heap.size) w.heap.size p s dv jv mvx mgx (n + ms.length) (runS S ms) t ⟨(encs ms).length,false⟩ gone wr HSx.out HRx.out HPx.out ⟨HE.out.2,hfits⟩ hgY' hpY' hgp hgx hpx (by rw [hm1]) (by omega) (by rw [hcnt];omega) (by rw [hcnt];omega)
    rw [hm1] at hrec
    simp only at hrec
    have hrf : recF (runS S ms) (rmut (bs t) ⟨(encs ms).length + 1,false⟩ gone) = (false,runS S ms):=by
     unfold recF
     rw [if_pos hm2]
    rw [hrf] at hrec
    obtain ⟨A,hA⟩ : ∃ A,(encs ms).length = A:=⟨_,rfl⟩
    rw [hA] at c1 q1 hrec
    have HA : Hid ((encs ms).length = A):=hA
    rw [hA]
    obtain ⟨r9,hr9⟩ : ∃ q,(rmut (bs t) ⟨A + 1,false⟩ gone).2 = q:=⟨_,rfl⟩
    rw [hr9] at hrec
    clear HSx HPx HRx HTx hgY' hpY' hpx hgx hgd hcnt hlen hfits hm1 hm2 hrf hr9 hA hAt
    go_wp2_with fail
    refine hrec.mono ?_
    rintro e w2 ⟨rfl,hR2,hP2,⟨mv2,hS2⟩,hT2⟩
    obtain ⟨hS3,hT3⟩:=HT3.out w2 mv2 _ _ hS2 hT2
    obtain ⟨e1,e2⟩:=HFin.out w2 mv2 _ hS3 hT3
    have fz:=hP2.frozen
    have d2 : w2.cell? ⟨p,2,none⟩ = some (.pointer none):=(hP2.cell 2).trans rfl
    have HG : Hid (RepAt (w2.setCell ⟨p,2,none⟩ (.pointer none)) p s (.pointer none)/\(∃ mv' n',n'<=n + ms.length + 1/\StIn (Yn Y w.heap.size (w2.setCell ⟨p,2,none⟩ (.pointer none)).heap.size) (w2.setCell ⟨p,2,none⟩ (.pointer none)) s dv jv mv' n' (runS S ms))/\Tr (fun k=>k = p\/Y k) w (w2.setCell ⟨p,2,none⟩ (.pointer none))):=by
     refine ⟨hP2.set _,⟨mv2,_,Nat.le_refl _,?_⟩,e2.setCell (p:=⟨p,2,none⟩) (.inl rfl) _⟩
     have hsz : (w2.setCell ⟨p,2,none⟩ (.pointer none)).heap.size = w2.heap.size:=by simp [World.setCell]
     rw [hsz]
     refine e1.tr ((Tr.refl (One p) w2).set1 2 _) (fun k hk (e : k = p)=>?_)
     rcases hk with hk | hk
     ·exact hpY (e ▸ hk)
     ·have:=HPw.out;omega
    clear hS2 hT2 hS3 hT3 hR2 hP2 hrec HT3 HFin e1 e2 c1
    go_wp2
    go_ret
    exact ⟨by rw [HA.out];rfl,⟨_,HG.out.1⟩,HG.out.2.1,HG.out.2.2⟩
end Go.Proofs.YtilkdeghknjjhaaGreatDoor
namespace Go.Proofs.YtilkdeghknjjhaaGreatDoor
open Go.RowKit M Go.Maps
variable {Z Y : Nat->Prop} {w w' : World} {s j p d n : Nat} {mv mg : Value} {D : Dk} {J : Jn} {S : St}
theorem text_any (Z : Nat->Prop) (j d : Nat) (D : Dk) (J : Jn) (n : ByteArray) (w : World) (h : Side Z w j d D J) (hwf : D.WF) :
  Calls Tryz.prog 199 #[.pointer (some ⟨j,0,none⟩),.string n] w fun e w'=>e = .returned (.tuple #[.string (if there D.now n = true/\D.life ≠ 0 then D.dataOf n else ⟨#[]⟩),.bool (decide (there D.now n = true/\D.life ≠ 0))])/\Below w.heap.size w w':=by
 have c0 : w.cell? ⟨j,0,none⟩ = some (.pointer (some ⟨d,0,none⟩)):=(h.jn.cell 0).trans rfl
 have HS:=Size_any Z d D n w h.dk hwf.ok
 have HX : Hid (∀ X,Below w.heap.size w X->X.cell? ⟨j,0,none⟩ = some (.pointer (some ⟨d,0,none⟩))/\Calls Tryz.prog 231 #[.pointer (some ⟨d,0,none⟩),.string n,.int .i64 0,.int .i64 (D.sizeOf n)] X fun e w'=>D.ReadEnd n 0 (D.sizeOf n) e/\Below X.heap.size X w'):=fun X hX =>
  ⟨cell_later hX c0,Read_any Z d D n 0 (D.sizeOf n) X (h.dk.below hX) hwf.ok⟩
 by_cases hb : there D.now n = true/\D.life ≠ 0
 ·have HE : Hid (D.sizeEnd n = .returned (.tuple #[.int .i64 (D.sizeOf n),.bool true])):=by show _ = _;unfold Dk.sizeEnd;simp [hb]
  have HW : Hid (∀ e,D.ReadEnd n 0 (D.sizeOf n) e->e = .returned (.tuple #[.string (D.dataOf n),.bool true])):=fun e he=>he.whole hb.1 hb.2
  rw [if_pos hb,decide_eq_true hb]
  rw [HE.out] at HS
  clear h hb
  go_enter Tryz.func199,Tryz.ntmps199
  go_wp2_with fail
  refine HS.mono ?_
  rintro e w1 ⟨rfl,hb1⟩
  obtain ⟨d0,hR⟩:=HX.out w1 hb1
  go_wp2_with fail
  refine hR.mono ?_
  rintro e w2 ⟨he,hb2⟩
  rw [HW.out e he]
  go_wp2
  go_ret2
  exact ⟨rfl,belowN hb1 hb2⟩
 ·have HE : Hid (D.sizeEnd n = .returned (.tuple #[.int .i64 0,.bool false])):=by show _ = _;unfold Dk.sizeEnd;rw [if_neg hb,decide_eq_false hb]
  rw [if_neg hb,decide_eq_false hb]
  rw [HE.out] at HS
  clear h hb
  go_enter Tryz.func199,Tryz.ntmps199
  go_wp2_with fail
  refine HS.mono ?_
  rintro e w1 ⟨rfl,hb1⟩
  go_wp2
  go_ret2
  exact ⟨rfl,hb1⟩
structure OpS (Z Y : Nat->Prop) (w : World) (s j p d : Nat) (mv mg : Value) (n : Nat) (D : Dk) (J : Jn) (S : St) : Prop where
 side : Side Z w j d D J
 st : StIn Y w s (.pointer (some ⟨d,0,none⟩)) (.pointer none) mv n S
 rp : RepAt w p s mg
 zj : ¬ Z j
 yj : ¬ Y j
 zp : ¬ Z p
 yp : ¬ Y p
 jp : j ≠ p
 dj : ∀ k,Z k->Y k->False
 lz : ∀ k,Z k->k < w.heap.size
 v5 : ∀ k,k < 5->¬ Z k/\¬ Y k
 j5 : 5<=j
 p5 : 5<=p
theorem OpS.jlt (h : OpS Z Y w s j p d mv mg n D J S) : j < w.heap.size/\p < w.heap.size:=⟨(Array.getElem?_eq_some_iff.1 h.side.jn).1,(Array.getElem?_eq_some_iff.1 h.rp).1⟩
theorem OpS.below (h : OpS Z Y w s j p d mv mg n D J S) (b : Below w.heap.size w w') : OpS Z Y w' s j p d mv mg n D J S :=
 ⟨h.side.below b,h.st.below b,h.rp.below b,h.zj,h.yj,h.zp,h.yp,h.jp,h.dj,fun k hk=>Nat.lt_of_lt_of_le (h.lz k hk) b.size,h.v5,h.j5,h.p5⟩
theorem OpS.took {mv' mg' : Value} {n' : Nat} {S' : St} (h : OpS Z Y w s j p d mv mg n D J S) (h1 : RepAt w' p s mg') (h2 : StIn (Yn Y w.heap.size w'.heap.size) w' s (.pointer (some ⟨d,0,none⟩)) (.pointer none) mv' n' S') (t : Tr (fun k=>k = p\/Y k) w w') :
  OpS Z (Yn Y w.heap.size w'.heap.size) w' s j p d mv' mg' n' D J S':=by
 obtain ⟨hj,hp⟩:=h.jlt
 have n1 : ∀ k,Z k->¬ (k = p\/Y k):=fun k hk hh=>hh.elim (fun e=>h.zp (e ▸ hk)) (fun hy=>h.dj k hk hy)
 refine ⟨⟨h.side.dk.tr t n1,h.side.jn.tr t (fun hh=>hh.elim h.jp h.yj),h.side.vs.tr t (fun k hk hh=>hh.elim (fun e=>by have:=h.p5;omega) (h.v5 k hk).2)⟩,h2,h1,h.zj,fun hh=>?_,h.zp,fun hh=>?_,h.jp,fun k hz hy=>?_,fun k hk=>Nat.lt_of_lt_of_le (h.lz k hk) t.size,fun k hk=>⟨(h.v5 k hk).1,fun hy=>?_⟩,h.j5,h.p5⟩
 ·rcases hh with hh | hh
  ·exact h.yj hh
  ·omega
 ·rcases hh with hh | hh
  ·exact h.yp hh
  ·omega
 ·rcases hy with hy | hy
  ·exact h.dj k hz hy
  ·have:=h.lz k hz;omega
 ·rcases hy with hy | hy
  ·exact (h.v5 k hk).2 hy
  ·have:=h.side.vs.five;omega
theorem OpS.setJ {J' : Jn} (h : OpS Z Y w s j p d mv mg n D J S) (o : Nat) (u : Value) (hj : JAt (w.setCell ⟨j,o,none⟩ u) j d J') : OpS Z Y (w.setCell ⟨j,o,none⟩ u) s j p d mv mg n D J' S:=by
 have t : Tr (One j) w (w.setCell ⟨j,o,none⟩ u):=(Tr.refl _ w).set1 o u
 refine ⟨⟨h.side.dk.tr t (fun k hk (e : k = j)=>h.zj (e ▸ hk)),hj,h.side.vs.tr t (fun k hk (e : k = j)=>by have:=h.j5;omega)⟩,h.st.tr t (fun k hk (e : k = j)=>h.yj (e ▸ hk)),h.rp.tr t (fun (e : p = j)=>h.jp e.symm),h.zj,h.yj,h.zp,h.yp,h.jp,h.dj,fun k hk=>by simp [World.setCell];exact h.lz k hk,h.v5,h.j5,h.p5⟩
theorem OpS.setP (h : OpS Z Y w s j p d mv mg n D J S) (u : Value) : OpS Z Y (w.setCell ⟨p,2,none⟩ u) s j p d mv u n D J S:=by
 have t : Tr (One p) w (w.setCell ⟨p,2,none⟩ u):=(Tr.refl _ w).set1 2 u
 refine ⟨⟨h.side.dk.tr t (fun k hk (e : k = p)=>h.zp (e ▸ hk)),h.side.jn.tr t (fun (e : j = p)=>h.jp e),h.side.vs.tr t (fun k hk (e : k = p)=>by have:=h.p5;omega)⟩,h.st.tr t (fun k hk (e : k = p)=>h.yp (e ▸ hk)),h.rp.set u,h.zj,h.yj,h.zp,h.yp,h.jp,h.dj,fun k hk=>by simp [World.setCell];exact h.lz k hk,h.v5,h.j5,h.p5⟩
end Go.Proofs.YtilkdeghknjjhaaGreatDoor
namespace Go.Proofs.YtilkdeghknjjhaaGreatDoor
open Go.RowKit M Go.Maps
def ReadE (Z Y : Nat->Prop) (w w' : World) (s j p d : Nat) (n : Nat) (D : Dk) (J : Jn) (S : St) : Prop :=
 (∃ Y' mv' mg' n',n'<=n/\OpS Z Y' w' s j p d mv' mg' n' D J S/\∀ k,Y' k->Y k\/w.heap.size<=k)/\Tr (fun k=>k = j\/k = p\/Y k) w w'
theorem read_any (Z Y : Nat->Prop) (s j p d : Nat) (mv mg : Value) (n : Nat) (D : Dk) (J : Jn) (S : St) (num : Nat) (t : ByteArray) (nd : Int) (ms : List Mt) (tl : Bs) (w : World) (h : OpS Z Y w s j p d mv mg n D J S) (hwf : D.WF) (hl : D.life ≠ 0) (hth : there D.now (fnm num) = true) (hda : D.dataOf (fnm num) = t)
  (ht : bs t = encs ms ++ tl) (hsz : t.size<=1000000000) (htl : Tail tl) (hms : ∀ m ∈ ms,m.OK) (hg : GoodM nd S.M S.cnt ms) (hn : n + ms.length < 100000000000) (hc0 : 0<=S.cnt) (hc1 : S.cnt + ms.length<=4611686018427387000) (hnum : num < 1000000000) (hj : J.num < 1000000000) :
  Calls Tryz.prog 147 #[.pointer (some ⟨j,0,none⟩),.int .i64 num,.pointer (some ⟨p,0,none⟩)] w fun e w'=>e = .returned (.bool true)/\ReadE Z Y w w' s j p d (n + ms.length + 1) D ⟨J.roll,num,t.size,decide (tl ≠ [])⟩ (runS S ms):=by
 have HFn : Hid (Calls Tryz.prog 125 #[.int .i64 num] w fun e w'=>e = .returned (.string (fnm num))/\Below w.heap.size w w'):=fileName_any num w (by omega) h.side.vs
 have HTx : Hid (∀ X,Below w.heap.size w X->Calls Tryz.prog 199 #[.pointer (some ⟨j,0,none⟩),.string (fnm num)] X fun e w'=>e = .returned (.tuple #[.string t,.bool true])/\Below X.heap.size X w'):=fun X hX=>by
  have:=text_any Z j d D J (fnm num) X (h.side.below hX) hwf
  rw [if_pos ⟨hth,hl⟩,decide_eq_true ⟨hth,hl⟩,hda] at this
  exact this
 have HFi : Hid (∀ X mgx,OpS Z Y X s j p d mv mgx n D J S->Calls Tryz.prog 200 #[.pointer (some ⟨p,0,none⟩),.string t] X fun e w'=>e = .returned (.int .i64 (encs ms).length)/\(∃ Y' mv' mg' n',n'<=n + ms.length + 1/\OpS Z Y' w' s j p d mv' mg' n' D J (runS S ms)/\∀ k,Y' k->Y k\/X.heap.size<=k)/\Tr (fun k=>k = p\/Y k) X w'):=fun X mgx hX=>by
  refine (file_any Y p s _ _ mv mgx n S t nd ms tl X hX.st hX.rp hX.yp ht hsz htl hms hg hn hc0 hc1).mono ?_
  rintro e w' ⟨he,⟨mg',h1⟩,⟨mv',n',hn',h2⟩,t1⟩
  exact ⟨he,⟨_,mv',mg',n',hn',hX.took h1 h2 t1,fun k hk=>hk.imp (fun h=>h) (fun h=>h.1)⟩,t1⟩
 have HDec : Hid (decide ((encs ms).length < t.size) = decide (tl ≠ [])):=by
  have h1 : (bs t).length = (encs ms).length + tl.length:=by rw [ht,List.length_append]
  rw [bs_len] at h1
  show _ = _
  by_cases h2 : tl = []
  ·subst h2
   have : ¬ (encs ms).length < t.size:=by simp at h1;omega
   rw [decide_eq_false this];simp
  ·have h3 : 0 < tl.length:=List.length_pos_iff.2 h2
   have : (encs ms).length < t.size:=by omega
   rw [decide_eq_true this];simp [h2]
 have H0 : Hid (OpS Z Y w s j p d mv mg n D J S):=h
 have n0 : (0 : Int)<=(J.num : Int):=by omega
 have n1 : (J.num : Int)<=1000000000:=by omega
 have m0 : (0 : Int)<=(num : Int):=by omega
 have m1 : (num : Int)<=1000000000:=by omega
 have hcw : (IntKind.i64.wrap ((J.num : Int) + 1)) = (J.num : Int) + 1:=wrap_in _ (by omega) (by omega)
 have l0 : (0 : Int)<=(t.size : Int):=by omega
 have l1 : (t.size : Int)<=1000000000:=by omega
 obtain ⟨nm_,hnm⟩ : ∃ q,fnm num = q:=⟨_,rfl⟩
 rw [hnm] at HFn HTx
 obtain ⟨L,hL⟩ : ∃ L,(encs ms).length = L:=⟨_,rfl⟩
 rw [hL] at HFi HDec
 obtain ⟨C,hC⟩ : ∃ C,decide (tl ≠ []) = C:=⟨_,rfl⟩
 rw [hC] at HDec
 rw [hC]
 have HEnd : Hid (∀ X w3 Y' mv' mg' n',n'<=n + ms.length + 1->OpS Z Y' w3 s j p d mv' mg' n' D J (runS S ms)->(∀ k,Y' k->Y k\/X.heap.size<=k)->Tr (fun k=>k = p\/Y k) X w3->w.heap.size<=X.heap.size->Tr (One p) w X ->
   ReadE Z Y w (((w3.setCell ⟨j,2,none⟩ (.int .i64 num)).setCell ⟨j,3,none⟩ (.int .i64 t.size)).setCell ⟨j,4,none⟩ (.bool C)) s j p d (n + ms.length + 1) D ⟨J.roll,num,t.size,C⟩ (runS S ms)):=fun X w3 Y' mv' mg' n' hn' h3 hy t3 hsX tX=>by
  have a1:=h3.setJ 2 (.int .i64 num) (h3.side.jn.setNum num)
  have a2:=a1.setJ 3 (.int .i64 t.size) (a1.side.jn.setSize t.size)
  have a3:=a2.setJ 4 (.bool C) (a2.side.jn.setCut C)
  refine ⟨⟨Y',mv',mg',n',hn',a3,fun k hk=>(hy k hk).imp (fun h=>h) (fun h=>by omega)⟩,?_⟩
  have tz : Tr (fun k=>k = j\/k = p\/Y k) w w3:=(tX.mono fun k _ (e : k = p)=>.inr (.inl e)).trans (t3.mono fun k _ hk=>.inr hk)
  exact ((tz.setCell (p:=⟨j,2,none⟩) (.inl rfl) _).setCell (p:=⟨j,3,none⟩) (.inl rfl) _).setCell (p:=⟨j,4,none⟩) (.inl rfl) _
 clear h hwf hl hth hda ht hsz htl hms hg hn hc0 hc1 hnum hj hnm hL hC
 go_enter Tryz.func147,Tryz.ntmps147
 go_wp2_with fail
 refine HFn.out.mono ?_
 rintro e w1 ⟨rfl,hb1⟩
 go_wp2_with fail
 refine (HTx.out w1 hb1).mono ?_
 rintro e w2 ⟨rfl,hb2⟩
 have hb3:=belowN hb1 hb2
 have H2 : Hid (OpS Z Y w2 s j p d mv mg n D J S):=H0.out.below hb3
 have c2 : w2.cell? ⟨j,2,none⟩ = some (.int .i64 J.num):=(H2.out.side.jn.cell 2).trans rfl
 have hTb : Hid (Tr (One p) w w2/\w.heap.size<=w2.heap.size):=⟨below_tr hb3 _,hb3.size⟩
 clear HFn HTx hb1 hb2 hb3 H0
 go_upto_region 4 with (fail)
 by_cases hq : (num : Int) = (J.num : Int) + 1
 ·have hqb : ((num : Int) != (J.num : Int) + 1) = false:=by simp [hq]
  clear hq
  go_wp2_with fail
  refine (HFi.out w2 mg H2.out).mono ?_
  rintro e w3 ⟨rfl,⟨Y',mv',mg',n',hn',h3,hy⟩,t3⟩
  have HF:=HEnd.out w2 w3 Y' mv' mg' n' hn' h3 hy t3 hTb.out.2 hTb.out.1
  have d2 : w3.cell? ⟨j,2,none⟩ = some (.int .i64 J.num):=(h3.side.jn.cell 2).trans rfl
  have d3 : w3.cell? ⟨j,3,none⟩ = some (.int .i64 J.size):=(h3.side.jn.cell 3).trans rfl
  have d4 : w3.cell? ⟨j,4,none⟩ = some (.bool J.cut):=(h3.side.jn.cell 4).trans rfl
  have fz:=h3.side.jn.frozen
  have HFx : Hid (ReadE Z Y w (((w3.setCell ⟨j,2,none⟩ (.int .i64 num)).setCell ⟨j,3,none⟩ (.int .i64 t.size)).setCell ⟨j,4,none⟩ (.bool C)) s j p d (n + ms.length + 1) D ⟨J.roll,num,t.size,C⟩ (runS S ms)):=HF
  clear HF HEnd h3 hy t3 H2 HFi c2
  go_wp2
  go_ret
  refine ⟨rfl,?_⟩
  rw [HDec.out]
  exact HFx.out
 ·have hqb : ((num : Int) != (J.num : Int) + 1) = true:=by simp [hq]
  clear hq
  have fzp:=H2.out.rp.frozen
  have cp : w2.cell? ⟨p,2,none⟩ = some mg:=(H2.out.rp.cell 2).trans rfl
  obtain ⟨W3,hW3,H3,hTc⟩ : ∃ W3,w2.setCell ⟨p,2,none⟩ (.pointer none) = W3/\Hid (OpS Z Y W3 s j p d mv (.pointer none) n D J S)/\Hid (Tr (One p) w W3/\w.heap.size<=W3.heap.size) :=
   ⟨_,rfl,H2.out.setP _,hTb.out.1.set1 2 _,by simp [World.setCell];exact hTb.out.2⟩
  go_upto_region 6 with (fail)
  clear hW3 fzp cp
  go_wp2_with fail
  refine (HFi.out W3 (.pointer none) H3.out).mono ?_
  rintro e w3 ⟨rfl,⟨Y',mv',mg',n',hn',h3,hy⟩,t3⟩
  have HF:=HEnd.out W3 w3 Y' mv' mg' n' hn' h3 hy t3 hTc.out.2 hTc.out.1
  have d2 : w3.cell? ⟨j,2,none⟩ = some (.int .i64 J.num):=(h3.side.jn.cell 2).trans rfl
  have d3 : w3.cell? ⟨j,3,none⟩ = some (.int .i64 J.size):=(h3.side.jn.cell 3).trans rfl
  have d4 : w3.cell? ⟨j,4,none⟩ = some (.bool J.cut):=(h3.side.jn.cell 4).trans rfl
  have fz:=h3.side.jn.frozen
  have HFx : Hid (ReadE Z Y w (((w3.setCell ⟨j,2,none⟩ (.int .i64 num)).setCell ⟨j,3,none⟩ (.int .i64 t.size)).setCell ⟨j,4,none⟩ (.bool C)) s j p d (n + ms.length + 1) D ⟨J.roll,num,t.size,C⟩ (runS S ms)):=HF
  clear HF HEnd h3 hy t3 H2 H3 HFi c2
  go_wp2
  go_ret
  refine ⟨rfl,?_⟩
  rw [HDec.out]
  exact HFx.out
end Go.Proofs.YtilkdeghknjjhaaGreatDoor
namespace Go.Proofs.YtilkdeghknjjhaaGreatDoor
open Go.RowKit M Go.Maps
def hintX : ByteArray:=⟨#[46,104,105,110,116]⟩
theorem hinted_no (Z : Nat->Prop) (j d : Nat) (D : Dk) (J : Jn) (i : Nat) (w : World) (h : Side Z w j d D J) (hwf : D.WF) (hi : i < 1000000000) (hno : there D.now (fnm i ++ hintX) = false) :
  Calls Tryz.prog 195 #[.pointer (some ⟨j,0,none⟩),.int .i64 i] w fun e w'=>e = .returned (.bool false)/\Below w.heap.size w w':=by
 have HFn : Hid (Calls Tryz.prog 125 #[.int .i64 i] w fun e w'=>e = .returned (.string (fnm i))/\Below w.heap.size w w'):=fileName_any i w (by omega) h.vs
 have HTx : Hid (∀ X,Below w.heap.size w X->Calls Tryz.prog 199 #[.pointer (some ⟨j,0,none⟩),.string (fnm i ++ hintX)] X fun e w'=>e = .returned (.tuple #[.string ⟨#[]⟩,.bool false])/\Below X.heap.size X w'):=fun X hX=>by
  have:=text_any Z j d D J (fnm i ++ hintX) X (h.below hX) hwf
  rw [if_neg (by rw [hno];simp),decide_eq_false (by rw [hno];simp)] at this
  exact this
 have hsz : (fnm i).size<=24:=by
  unfold fnm
  rw [ByteArray.size_append]
  have:=itoa_size (n:=i) (by omega)
  have h1 : (⟨#[100,97,116,97,46]⟩ : ByteArray).size = 5:=rfl
  omega
 have hadd : ¬ 9223372036854775807 < (fnm i).size + 5:=by omega
 obtain ⟨nm_,hnm⟩ : ∃ q,fnm i = q:=⟨_,rfl⟩
 rw [hnm] at HFn HTx hadd
 unfold hintX at HTx
 clear hnm hsz h hno
 go_enter Tryz.func195,Tryz.ntmps195
 go_wp2_with fail
 refine HFn.out.mono ?_
 rintro e w1 ⟨rfl,hb1⟩
 go_wp2_with fail
 refine (HTx.out w1 hb1).mono ?_
 rintro e w2 ⟨rfl,hb2⟩
 go_wp2
 go_ret
 exact ⟨rfl,belowN hb1 hb2⟩
theorem needed_all (Z : Nat->Prop) (j d : Nat) (D : Dk) (J : Jn) (is : List Nat) (v : Value) (w : World) (h : Side Z w j d D J) (hwf : D.WF) (hv : w.ownsRow 0 3 1 v is.length (cellsI (numsI is))) (hl : is.length<=1000000000) (hi : ∀ i ∈ is,i < 1000000000/\there D.now (fnm i ++ hintX) = false) :
  Calls Tryz.prog 145 #[.pointer (some ⟨j,0,none⟩),v] w fun e w'=>e = .returned v/\Below w.heap.size w w':=by
 obtain ⟨a,cap,rfl,hlc,hc,hA⟩:=own_cells hv
 have hl1 : (is.length : Int)<=1000000000:=by omega
 have HN : Hid (∀ X k,Below w.heap.size w X->k < is.length->∃ (g : Nat) (i : Int),a = some ⟨g,0,none⟩/\X.cell? ⟨g,k,none⟩ = some (.int .i64 i)/\Calls Tryz.prog 195 #[.pointer (some ⟨j,0,none⟩),.int .i64 i] X fun e w'=>e = .returned (.bool false)/\Below X.heap.size X w'):=fun X k hX hk=>by
  obtain ⟨g,rfl,_,hcell⟩:=hA (by omega)
  obtain ⟨h1,h2⟩:=hi _ (List.getElem_mem hk)
  refine ⟨g,is[k],rfl,cell_later hX (hcell k _ ?_),hinted_no Z j d D J is[k] X (h.below hX) hwf h1 h2⟩
  unfold cellsI numsI
  simp [hk]
 clear hA hlc hc hv h hi
 have hcw : IntKind.i64.wrap ((is.length : Int) - 1) = (is.length : Int) - 1:=wrap_in _ (by omega) (by omega)
 go_enter Tryz.func145,Tryz.ntmps145
 go_wp2_with fail
 go_loopw [5] (fun u wr=>∃ k : Int,-1<=k/\k < is.length/\u = .int .i64 k/\Below w.heap.size w wr) (fun u _=>(intOf u + 1).toNat)
 case atStart=>exact ⟨(is.length : Int) - 1,by omega,by omega,rfl,Below.refl _ _⟩
 case round =>
  obtain ⟨k,hk0,hk1,rfl,hb⟩:=hrel
  by_cases hlt : 0 < k
  ·obtain ⟨m,rfl⟩ : ∃ m : Nat,k = m:=⟨k.toNat,by omega⟩
   obtain ⟨g,i,rfl,e0,hcall⟩:=HN.out wr m hb (by omega)
   have k0 : (0 : Int)<=(m : Int):=by omega
   clear HN
   go_wp2_with fail
   refine hcall.mono ?_
   rintro e w1 ⟨rfl,hb1⟩
   have hb2:=belowN hb hb1
   clear hb hb1
   go_wp2
   go_roundw
   case rel=>exact ⟨(m : Int) - 1,by omega,by omega,by go_num,hb2⟩
   case measure=>simp [intOf]
  ·clear HN
   go_wp2
   go_ret
   exact ⟨rfl,hb⟩
end Go.Proofs.YtilkdeghknjjhaaGreatDoor
namespace Go.Proofs.YtilkdeghknjjhaaGreatDoor
open Go.RowKit M
variable {k a : Nat} {D : Dk}
theorem sort_numsI {is : List Nat} (hnd : is.Nodup) (hm : ∀ i,i ∈ is ↔ 1<=i/\i<=k) : ((numsI is).mergeSort fun x y=>decide (x<=y)) = numsI (List.range' 1 k)/\is.length = k:=by
 have hp : is.Perm (List.range' 1 k):=(List.perm_ext_iff_of_nodup hnd (List.nodup_range' (step:=1) (by omega))).2 fun i=>by
  rw [hm,List.mem_range'_1];omega
 refine ⟨?_,by rw [hp.length_eq,List.length_range']⟩
 refine List.Perm.eq_of_pairwise (le:=fun a b : Int=>a<=b) ?_ ?_ ?_ ((List.mergeSort_perm _ _).trans (hp.map _))
 ·intro a b _ _ h1 h2;exact Int.le_antisymm h1 h2
 ·have:=List.pairwise_mergeSort (le:=fun x y : Int=>decide (x<=y)) (fun a b c h1 h2=>by simp only [decide_eq_true_eq] at *;omega) (fun a b=>by simp only [Bool.or_eq_true,decide_eq_true_eq];omega) (numsI is)
  exact this.imp fun {a b} h=>by simpa using h
 ·unfold numsI
  refine List.pairwise_map.2 ((List.pairwise_lt_range' (s:=1) (n:=k)).imp fun {a b} h=>?_)
  show (a : Int)<=(b : Int)
  omega
theorem nums_of {l : List Nm} {F : Nat->Nat} (hs : Srt l) (hnow : ∀ x,x ∈ l ↔ ∃ i,1<=i/\i<=k/\x = ⟨fnm i,F i⟩) (hk : k<=100000000) :
  ∃ is : List Nat,names l = is.map fnm/\(∀ i,i ∈ is ↔ 1<=i/\i<=k)/\is.length = k/\((numsI is).mergeSort fun x y=>decide (x<=y)) = numsI (List.range' 1 k)/\l.length = k:=by
 have hex : ∀ x : Nm,∃ i : Nat,x ∈ l->1<=i/\i<=k/\x = ⟨fnm i,F i⟩:=fun x=>by
  by_cases hx : x ∈ l
  ·obtain ⟨i,h1,h2,h3⟩:=(hnow x).1 hx
   exact ⟨i,fun _=>⟨h1,h2,h3⟩⟩
  ·exact ⟨0,fun hh=>absurd hh hx⟩
 obtain ⟨idx,hidx⟩ : ∃ idx : Nm->Nat,∀ x,x ∈ l->1<=idx x/\idx x<=k/\x = ⟨fnm (idx x),F (idx x)⟩:=⟨fun x=>Classical.choose (hex x),fun x=>Classical.choose_spec (hex x)⟩
 have e1 : names l = (l.map idx).map fnm:=by
  unfold names
  rw [List.map_map]
  exact List.map_congr_left fun x hx=>by
   obtain ⟨_,_,h3⟩:=hidx x hx
   show x.n = fnm (idx x)
   exact congrArg Nm.n h3
 have hm : ∀ i,i ∈ l.map idx ↔ 1<=i/\i<=k:=fun i=>by
  rw [List.mem_map]
  constructor
  ·rintro ⟨x,hx,rfl⟩
   exact ⟨(hidx x hx).1,(hidx x hx).2.1⟩
  ·rintro ⟨h1,h2⟩
   have hx:=(hnow ⟨fnm i,F i⟩).2 ⟨i,h1,h2,rfl⟩
   refine ⟨_,hx,?_⟩
   obtain ⟨g1,g2,g3⟩:=hidx _ hx
   have:=congrArg Nm.n g3
   exact (fnm_inj (by omega) (by omega) this).symm
 have hnd : (l.map idx).Nodup:=by
  refine List.pairwise_map.2 (hs.imp_of_mem fun {x y} hx hy hxy e=>?_)
  obtain ⟨_,_,h3⟩:=hidx x hx
  obtain ⟨_,_,h4⟩:=hidx y hy
  rw [h3,h4,e,bl_irr] at hxy
  cases hxy
 obtain ⟨s1,s2⟩:=sort_numsI hnd hm
 exact ⟨_,e1,hm,s2,s1,by rw [List.length_map] at s2;exact s2⟩
theorem Files.nums {F : Nat->Nat} {B : Nat->List Mt} {T : Nat->Bs} (h : Files D k a F B T) (hk : k<=100000000) :
  ∃ is : List Nat,names D.now = is.map fnm/\(∀ i,i ∈ is ↔ 1<=i/\i<=k)/\is.length = k/\((numsI is).mergeSort fun x y=>decide (x<=y)) = numsI (List.range' 1 k):=by
 obtain ⟨is,h1,h2,h3,h4,_⟩:=nums_of h.srt h.now hk
 exact ⟨is,h1,h2,h3,h4⟩
theorem Files.lens {F : Nat->Nat} {B : Nat->List Mt} {T : Nat->Bs} (h : Files D k a F B T) (hk : k<=100000000) : D.now.length = k/\D.safe.length = a:=by
 have:=h.ak
 obtain ⟨_,_,_,_,_,h1⟩:=nums_of h.srt h.now hk
 obtain ⟨_,_,_,_,_,h2⟩:=nums_of h.srs h.safe (by omega)
 exact ⟨h1,h2⟩
theorem Files.no_hint {F : Nat->Nat} {B : Nat->List Mt} {T : Nat->Bs} (h : Files D k a F B T) (i : Nat) : there D.now (fnm i ++ hintX) = false:=by
 cases ht : there D.now (fnm i ++ hintX)
 ·rfl
 ·exfalso
  obtain ⟨x,hx,he⟩:=(there_iff h.srt _).1 ht
  obtain ⟨q,_,_,rfl⟩:=(h.now x).1 hx
  have e:=congrArg bs he
  simp only at e
  rw [bs_app] at e
  unfold fnm at e
  rw [bs_app,bs_app,bs_ba,bs_ba,List.append_assoc] at e
  have e2:=List.append_cancel_left e
  have hmem : (116 : UInt8) ∈ Lib.itoa (q : Int):=by
   rw [e2]
   refine List.mem_append_right _ ?_
   show (116 : UInt8) ∈ [46,104,105,110,116]
   simp
  rw [Lib.itoa_nonneg] at hmem
  have:=dec_digits q _ hmem
  have h2 : (116 : UInt8).toNat = 116:=rfl
  omega
end Go.Proofs.YtilkdeghknjjhaaGreatDoor
