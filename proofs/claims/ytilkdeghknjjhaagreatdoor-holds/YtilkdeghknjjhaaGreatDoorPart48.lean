/- A part of the proof. -/
import Derived.Test.YtilkdeghknjjhaaGreatDoorPart45
import Derived.Test.YtilkdeghknjjhaaGreatDoorPart46
set_option maxRecDepth 20000
set_option maxHeartbeats 3200000
set_option linter.unusedVariables false
namespace Go.Proofs.YtilkdeghknjjhaaGreatDoor
open Go.RowKit M Go.Maps
variable {Z Y : Nat->Prop} {w w' : World} {j n m : Nat} {S : St}
theorem StoX.more {s d : Nat} {D : Dk} {J : Jn} (h : StoX Z Y w w' s j d n D J S) (hm : n<=m) : StoX Z Y w w' s j d m D J S:=by
 obtain ⟨⟨Z',Y',mv',h1,h2,h3⟩,t⟩:=h
 exact ⟨⟨Z',Y',mv',h1.more hm,h2,h3⟩,t⟩
theorem syncF_ro {D : Dk} {J : Jn} (h : S.ro = true) : syncF D J S = (4,D,J,S):=by unfold syncF;rw [if_pos h,stopF_no (by decide)]
def syncS (s : Sd) (e : Int) (n : Nat) : Sd:=if s.ro = true then s else if e = 7 then { s with ro:=true } else { s with held:=n,un:=0 }
theorem Chg.sync {b : Nat} {s : Sd} {ms fl : List Mt} {rem p : Nat} {Zd Zx Zm : Nat->Prop} {D : Dk} {L : List MuV} {vh : Value} {F : List MuV} {x : Nat} {mv : Value} {J : Jn} (c : Chg Z w b s ms fl rem p m Zd Zx Zm D L vh F n x j Y mv J S) {w2 : World} {e : Ending}
  (hX : StoX Zd Y w w2 x j p (n + 2) (syncF D J S).2.1 (syncF D J S).2.2.1 (syncF D J S).2.2.2) (t : Tr (fun k=>k = b\/w2.heap.size<=k) w2 w') (sd : SdAt w' b (syncS s (syncF D J S).1 ms.length)) (he : e = .returned (.bool true)) : StepE Z w b rem e w':=by
 obtain ⟨h1,h2,h3,_⟩:=c.behind hX
 have hlt:=c.lt
 have hsz:=h3.size
 have hd : DocIn Zm w' m s.n ms s.fl fl L vh F:=h2.tr t fun k hk hh=>by
  rcases hh with e | e
  ·exact c.h.b3 (e ▸ hk)
  ·have:=hlt k hk;omega
 have hx : ∀ k,(k = b\/w2.heap.size<=k)->k = b\/Zm k\/w2.heap.size<=k:=fun k hk=>hk.imp (fun h=>h) (fun h=>.inr h)
 have hT : Tr Z w w':=h3.trans' t fun k hk hh=>by
  rcases hh with e | e
  ·exact e ▸ c.h.zb
  ·omega
 have hzm : ∀ k,Zm k->(Zm k\/w2.heap.size<=k)/\k < w'.heap.size:=fun k hk=>⟨.inl hk,by have:=hlt k hk;have:=t.size;omega⟩
 have hlen:=c.h.len
 by_cases hro : S.ro = true
 ·have e4:=syncF_ro (D:=D) (J:=J) hro
  have hsr : s.ro = true:=c.o.ro ▸ hro
  rw [e4] at hX sd
  unfold syncS at sd
  rw [if_pos hsr] at sd
  exact c.no hX t sd he
 ·have hro : S.ro = false:=by simpa using hro
  have hsr : ¬ s.ro = true:=by rw [<- c.o.ro,hro];decide
  obtain ⟨hfl,hd0,hS,hh,hu⟩:=c.o.wr hro
  subst hfl
  have hbud : (syncF D J S).2.1.Bud (900000000 + 20 * rem):=by
   have h1:=jsync_bud (k:=900000000 + 20 * rem) (c.h.dr.bu.mono (by omega)) J
   unfold syncF
   rw [stopF_D,if_neg (by rw [hro];decide)]
   unfold holdF
   split <;> split <;> exact h1
  have hnJ : J.num<=100000000:=by have:=JD.kf hS.jd;have:=c.h.dr.bu.l;omega
  have hle:=hS.hle
  unfold syncS at sd
  rw [if_neg hsr] at sd
  rcases syncF_res hS (c.h.dr.bu.mono (by omega)) with ⟨k1,k2,k3,k4,k5,k6⟩ | ⟨k1,k2,k3,k4,k5⟩
  ·rw [k1,if_neg (by decide)] at sd
   rw [k4,k5] at hX
   rw [k5] at k2
   refine SdE.step he hT (c.h.after c.o hX t hx sd rfl rfl rfl rfl rfl rfl rfl rfl rfl (ms':=ms) (fl':=[]) ⟨⟨ms,ms.length,k2.di,by simp,fun _=>Nat.le_refl _,Int.le_refl _,Nat.le_refl _⟩,hbud⟩ hd hzm (Doc.writ k2 c.o.doc.n0 c.o.doc.n1 c.o.doc.len) rfl (by show S.ro = s.ro;exact c.o.ro) (by omega) (fun _=>⟨rfl,ms.length,k2,rfl,by show (0 : Int) = _;omega⟩) (by omega) (by show (0 : Int)<=ms.length;omega) (Int.le_refl _) (Int.le_refl _) (by show (0 : Int)<=ms.length;omega))
  ·rw [k1,if_pos rfl] at sd
   rw [k4] at hX
   have hj : (syncF D J S).2.2.1 = J:=by
    unfold syncF
    rw [if_neg (by rw [hro];decide)]
    unfold stopF
    split <;> split <;> rfl
   rw [hj] at hX
   refine SdE.step he hT (c.h.after c.o hX t hx sd rfl rfl rfl rfl rfl rfl rfl rfl rfl (ms':=ms) (fl':=[]) ⟨⟨ms,hd0,k2,by simp,fun _=>Nat.le_refl _,Int.le_of_eq hh,hle⟩,hbud⟩ hd hzm ⟨c.o.doc.node,c.o.doc.cnt,c.o.doc.M,c.o.doc.good,c.o.doc.n0,c.o.doc.n1,c.o.doc.len⟩ rfl rfl (by omega) (fun h=>by cases h) (by omega) c.h.h0 c.h.h1 c.h.u0 c.h.u1)
end Go.Proofs.YtilkdeghknjjhaaGreatDoor
namespace Go.Proofs.YtilkdeghknjjhaaGreatDoor
open Go.RowKit M Go.Maps
variable {Z Zd Zx Zm Y : Nat->Prop} {w w' : World} {b rem m n x j : Nat} {s : Sd} {ms fl : List Mt} {D : Dk} {L F : List MuV} {vh mv : Value} {J : Jn}
def GetW (W Z : Nat->Prop) (w : World) (q b0 b1 c b : Nat) (s : Sd) (ms fl : List Mt) (rem p m : Nat) (Zd Zx Zm : Nat->Prop) (D : Dk) (L : List MuV) (vh : Value) (F : List MuV) (n x j : Nat) (Y : Nat->Prop) (mv : Value) (J : Jn) (S : St) (e : Ending) (w' : World) : Prop :=
 e = .returned (.bool true)/\Tr (fun k=>W k\/k = b\/w.heap.size<=k) w w'/\(∃ W' c',WoR W' w' q b0 b1 c'/\c'<=c + 1/\∀ k,W' k->W k\/w.heap.size<=k) /\
 ∃ t : ByteArray,SdR Z w' b { s with ctx:=t } ms fl rem p m Zd Zx Zm D L vh F n/\OpnIn Zd Zx w' p D { s with ctx:=t } ms fl n x j Y mv J S
theorem SdR.ctx {p : Nat} {S : St} (h : SdR Z w b s ms fl rem p m Zd Zx Zm D L vh F n) (o : OpnIn Zd Zx w p D s ms fl n x j Y mv J S) (t : ByteArray) (ht : t.size<=1000000) :
  SdR Z (w.setCell ⟨b,13,none⟩ (.string t)) b { s with ctx:=t } ms fl rem p m Zd Zx Zm D L vh F n/\OpnIn Zd Zx (w.setCell ⟨b,13,none⟩ (.string t)) p D { s with ctx:=t } ms fl n x j Y mv J S:=by
 have tr : Tr (fun k=>k = b) w (w.setCell ⟨b,13,none⟩ (.string t)):=(Tr.refl (fun k=>k = b) w).setCell (p:=⟨b,13,none⟩) rfl _
 have hb:=h.lt b h.zb
 have hs : (w.setCell ⟨b,13,none⟩ (.string t)).heap.size = w.heap.size:=by simp [World.setCell]
 have ho : OpnIn Zd Zx (w.setCell ⟨b,13,none⟩ (.string t)) p D { s with ctx:=t } ms fl n x j Y mv J S :=
  ⟨o.hx,o.cl,o.cr,o.sto.tr tr fun k (hk : k = b)=>⟨fun hz=>h.b1 (hk ▸ hz),fun hy=>h.b2 (hk ▸ o.yz k hy),fun e=>h.b2 (by rw [<- hk,e];exact o.jz),by omega⟩,o.yz,o.jz,o.doc,o.ev,o.ro,o.num,o.wr⟩
 exact ⟨⟨(heap_setCell_self h.sd 13 _).trans rfl,h.d,h.mm,h.dk.tr tr (fun k hk (e : k = b)=>h.b1 (e ▸ hk)),h.dr,h.doc.tr tr (fun k hk (e : k = b)=>h.b3 (e ▸ hk)),.opn x j Y mv J S ho,h.o,h.zd,h.zx,h.zm,h.zb,h.a1,h.a2,h.a3,h.b1,h.b2,h.b3,fun k hk=>by rw [hs];exact h.lt k hk,h.len,h.nn,h.h0,h.h1,h.u0,h.u1,ht⟩,ho⟩
theorem OpnIn.tr {X : Nat->Prop} {p : Nat} {S : St} (o : OpnIn Zd Zx w p D s ms fl n x j Y mv J S) (h : SdR Z w b s ms fl rem p m Zd Zx Zm D L vh F n) (t : Tr X w w') (hx : ∀ k,Z k->¬ X k) (h5 : ∀ k,X k->5<=k) : OpnIn Zd Zx w' p D s ms fl n x j Y mv J S :=
 ⟨o.hx,o.cl,o.cr,o.sto.tr t fun k hk=>⟨fun hz=>hx k (h.zd k hz) hk,fun hy=>hx k (h.zx k (o.yz k hy)) hk,fun e=>hx j (h.zx j o.jz) (e ▸ hk),h5 k hk⟩,o.yz,o.jz,o.doc,o.ev,o.ro,o.num,o.wr⟩
noncomputable def getF (key : ByteArray) (S : Se) : List ByteArray × ByteArray × Int:=open Classical in
 if keyOK key = false then ([],ByteArray.empty,1) else if S.L = [] then ([],ByteArray.empty,8) else (valsS S.L,encT S.C,0)
theorem GetEnd.f {key : ByteArray} {S : Se} {B : Nat} {e : Ending} (h : GetEnd key S B e w') : ∃ a c,e = .returned (.tuple #[.slice a (getF key S).1.length c,.string (getF key S).2.1,.int .i64 (getF key S).2.2])/\OwnX w' B (.slice a (getF key S).1.length c) (getF key S).1:=by
 obtain ⟨v,t,m,he,h⟩:=h
 unfold getF
 rcases h with ⟨h1,h2,h3,h4⟩ | ⟨h1,h2,h3,h4,h5⟩ | ⟨h1,h2,h3,h4,h5⟩
 ·rw [if_pos h1]
  subst h2 h3 h4
  exact ⟨none,0,he,rfl,.inl ⟨rfl,rfl⟩⟩
 ·rw [if_neg (by rw [h1];decide),if_pos h2]
  subst h3 h4 h5
  exact ⟨none,0,he,rfl,.inl ⟨rfl,rfl⟩⟩
 ·rw [if_neg (by rw [h1];decide),if_neg h2]
  subst h4 h5
  obtain ⟨a,c,hv⟩:=own_shape h3
  exact ⟨a,c,by rw [he,hv],by rw [<- hv];exact h3⟩
theorem getF_size (key : ByteArray) (S : Se) : (getF key S).2.1.size<=1000000/\(getF key S).1.length<=S.L.length:=by
 unfold getF
 split
 ·exact ⟨by simp,by simp⟩
 ·split
  ·exact ⟨by simp,by simp⟩
  ·exact ⟨by show (encT S.C).size<=_;have:=encT_size S.C;omega,by simp [valsS]⟩
theorem GetW.pack {W : Nat->Prop} {q b0 b1 c : Nat} {p : Nat} {S : St}
  (h : SdR Z w b s ms fl rem p m Zd Zx Zm D L vh F n) (o : OpnIn Zd Zx w p D s ms fl n x j Y mv J S) (hd : ∀ k,Z k->¬ W k) (hw : ∀ k,W k->5<=k) {w5 : World} (t : Tr (fun k=>W k\/w.heap.size<=k) w w5) (hk : ∃ W' c',WoR W' w5 q b0 b1 c'/\c'<=c + 1/\∀ k,W' k->W k\/w.heap.size<=k) :
  GetW W Z w q b0 b1 c b s ms fl rem p m Zd Zx Zm D L vh F n x j Y mv J S (.returned (.bool true)) w5/\∀ T : ByteArray,T.size<=1000000->GetW W Z w q b0 b1 c b s ms fl rem p m Zd Zx Zm D L vh F n x j Y mv J S (.returned (.bool true)) (w5.setCell ⟨b,13,none⟩ (.string T)):=by
 have hb:=h.lt b h.zb
 have hx : ∀ k,Z k->¬ (W k\/w.heap.size<=k):=fun k hk hh=>by
  rcases hh with hh | hh
  ·exact hd k hk hh
  ·have:=h.lt k hk;omega
 have h5 : ∀ k,(W k\/w.heap.size<=k)->5<=k:=fun k hk=>by
  rcases hk with hk | hk
  ·exact hw k hk
  ·omega
 have hs:=h.tr t hx h5
 have ho:=o.tr h t hx h5
 refine ⟨⟨rfl,t.mono fun k _ hk=>hk.imp (fun h=>h) .inr,hk,s.ctx,hs,ho⟩,fun T hT=>?_⟩
 obtain ⟨W',c',g1,g2,g3⟩:=hk
 have tr : Tr (fun k=>k = b) w5 (w5.setCell ⟨b,13,none⟩ (.string T)):=(Tr.refl (fun k=>k = b) w5).setCell (p:=⟨b,13,none⟩) rfl _
 obtain ⟨f1,f2⟩:=hs.ctx ho T hT
 refine ⟨rfl,(t.mono fun k _ hk=>hk.imp (fun h=>h) .inr).trans (tr.mono fun k _ hk=>.inr (.inl hk)),⟨W',c',g1.tr tr (fun k hk e=>?_),g2,g3⟩,T,f1,f2⟩
 subst e
 rcases g3 _ hk with hh | hh
 ·exact hd _ h.zb hh
 ·omega
theorem get_opn (W Z : Nat->Prop) (q b0 b1 c b : Nat) (s : Sd) (ms fl : List Mt) (rem p m : Nat) (Zd Zx Zm : Nat->Prop) (D : Dk) (L : List MuV) (vh : Value) (F : List MuV) (n x j : Nat) (Y : Nat->Prop) (mv : Value) (J : Jn) (S : St) (key : ByteArray) (w : World)
  (h : SdR Z w b s ms fl rem p m Zd Zx Zm D L vh F n) (o : OpnIn Zd Zx w p D s ms fl n x j Y mv J S) (hW : WoR W w q b0 b1 c) (hd : ∀ k,Z k->¬ W k) (hc : c<=20000000000) (hk : key.size<=maxLen) :
  Calls Tryz.prog 63 #[.pointer (some ⟨q,0,none⟩),.pointer (some ⟨b,0,none⟩),.string key] w fun e w'=>GetW W Z w q b0 b1 c b s ms fl rem p m Zd Zx Zm D L vh F n x j Y mv J S e w':=by
 have hw5 : ∀ k,W k->5<=k:=fun k hk=>by obtain ⟨_,_,_,_,_,_,_,h4⟩:=hW;exact (h4 k hk).1
 have hbz:=h.lt b h.zb
 have h5w : 5<=w.heap.size:=by omega
 have HS : Hid (∀ X,Below w.heap.size w X->X.cell? ⟨b,0,none⟩ = some (.pointer (some ⟨p,0,none⟩))/\X.cell? ⟨b,5,none⟩ = some (.pointer (some ⟨m,0,none⟩))/\X.cell? ⟨b,9,none⟩ = some (.bool false)):=fun X hX=>by
  have hs:=h.sd.below hX
  exact ⟨(hs.cell 0).trans (congrArg some h.d),(hs.cell 5).trans (congrArg some h.mm),(hs.cell 9).trans (congrArg (fun z=>some (Value.bool z)) o.cl)⟩
 have c4 : w.cell? ⟨b,4,none⟩ = some (.pointer (some ⟨x,0,none⟩)):=(h.sd.cell 4).trans (congrArg some o.hx)
 have HG : Hid (Calls Tryz.prog 29 #[.pointer (some ⟨x,0,none⟩),.string key] w fun e w'=>SGetEnd (D.life == 0) key (S.M key) w.heap.size e w'/\Below w.heap.size w w'):=sget_any Zd Y x j p mv n D J S key w o.sto hk (o.doc.l6 key)
 have HDd : Hid (∀ X,Below w.heap.size w X->Calls Tryz.prog 54 #[.pointer (some ⟨p,0,none⟩)] X fun e w'=>e = .returned (.bool (D.life == 0))/\w' = X):=fun X hX=>Dead_any Zd p D X (h.dk.below hX)
 have hll:=h.doc.len.1
 have hlen:=h.len
 have HRG : Hid (∀ X,Below w.heap.size w X->Calls Tryz.prog 110 #[.pointer (some ⟨m,0,none⟩),.string key] X fun e w'=>GetEnd key (S.M key) X.heap.size e w'/\Below X.heap.size X w'):=fun X hX=>by
  have:=refGet_any Zm m s.n L vh key X (h.doc.mi.below hX) (by omega)
  rw [h.doc.me,<- o.doc.at key] at this
  exact this
 have HKp : Hid (∀ X v xs,Below w.heap.size w X->OwnX X w.heap.size v xs->xs.length<=1000000->Calls Tryz.prog 107 #[.pointer (some ⟨q,0,none⟩),v] X fun e w'=>e = .returned (.tuple #[])/\Tr (fun k=>W k\/w.heap.size<=k) w w'/\∃ W' c',WoR W' w' q b0 b1 c'/\c'<=c + 1/\∀ k,W' k->W k\/w.heap.size<=k):=fun X v xs hX hv hl=>by
  have hXs:=hX.size
  refine ((hW.below hX).keep (B:=w.heap.size) (A:=w.heap.size) v xs hc hv hl (fun k hk=>?_) h5w hXs).mono ?_
  ·have:=(hv.lt k hk).1
   refine ⟨fun hh=>?_,this⟩
   obtain ⟨_,_,_,_,_,_,_,h4⟩:=hW
   have:=(h4 k hh).2
   omega
  ·rintro e w' ⟨he,hw',t⟩
   refine ⟨he,(below_tr hX _).trans (t.mono fun k hk hz=>?_),_,_,hw',Nat.le_refl _,fun k hk=>?_⟩
   ·rcases hz with hz | hz | hz
    ·exact .inl hz
    ·exact .inr (hv.lt k hz).1
    ·exact .inr (by omega)
   ·rcases hk.2 with hz | hz | hz
    ·exact .inl hz
    ·exact .inr (hv.lt k hz).1
    ·exact .inr (by omega)
 have HP : Hid (∀ w5,Tr (fun k=>W k\/w.heap.size<=k) w w5->(∃ W' c',WoR W' w5 q b0 b1 c'/\c'<=c + 1/\∀ k,W' k->W k\/w.heap.size<=k)->(GetW W Z w q b0 b1 c b s ms fl rem p m Zd Zx Zm D L vh F n x j Y mv J S (.returned (.bool true)) w5/\∀ T : ByteArray,T.size<=1000000->GetW W Z w q b0 b1 c b s ms fl rem p m Zd Zx Zm D L vh F n x j Y mv J S (.returned (.bool true)) (w5.setCell ⟨b,13,none⟩ (.string T)))/\∀ o,w5.frozen? ⟨b,o,none⟩ = false):=fun w5 t hk=>by
  refine ⟨GetW.pack h o hd hw5 t hk,?_⟩
  exact (h.sd.tr t (fun hz=>by
   rcases hz with hz | hz
   ·exact hd b h.zb hz
   ·omega)).frozen
 have HZ : Hid (∀ w5,Tr (fun k=>W k\/w.heap.size<=k) w w5->w5.cell? ⟨b,13,none⟩ = some (.string s.ctx)):=fun w5 t=>((h.sd.tr t (fun hz=>by
   rcases hz with hz | hz
   ·exact hd b h.zb hz
   ·omega)).cell 13).trans rfl
 have HI : Hid (∀ X,Below w.heap.size w X->∃ W' c',WoR W' X q b0 b1 c'/\c'<=c + 1/\∀ k,W' k->W k\/w.heap.size<=k):=fun X hX=>⟨W,c,hW.below hX,by omega,fun k hk=>.inl hk⟩
 obtain ⟨R,hR⟩ : ∃ R,getF key (S.M key) = R:=⟨_,rfl⟩
 have hRs:=getF_size key (S.M key)
 have h6:=o.doc.l6 key
 rw [hR] at hRs
 have HF : Hid (∀ B e w',GetEnd key (S.M key) B e w'->∃ a c,e = .returned (.tuple #[.slice a R.1.length c,.string R.2.1,.int .i64 R.2.2])/\OwnX w' B (.slice a R.1.length c) R.1):=fun B e w' hh=>by rw [<- hR];exact hh.f
 have HKo : Hid (keyOK key = false->R = ([],ByteArray.empty,1)):=fun hh=>by rw [<- hR];unfold getF;rw [if_pos hh]
 obtain ⟨xs,T,M⟩:=R
 have hT : T.size<=1000000:=hRs.1
 have hxl : xs.length<=6:=by have:=hRs.2;simp only at this;omega
 obtain ⟨dead,hdd⟩ : ∃ z,(D.life == 0) = z:=⟨_,rfl⟩
 rw [hdd] at HG HDd
 have hks : key.size<=9223372036854775807:=by unfold maxLen at hk;omega
 clear hdd hR hRs h6 h o hW hd hc hw5 hbz hll hlen
 cases dead
 ·have e0 : ∀ z : ByteArray,(z.toList == z.toList) = true:=fun z=>by simp
  go_enter Tryz.func63,Tryz.ntmps63
  go_wp2_with fail
  refine HG.out.mono ?_
  rintro e w1 ⟨hS,hb1⟩
  have hGE : GetEnd key (S.M key) w.heap.size e w1:=by
   rcases hS with ⟨_,hh⟩ | ⟨_,hh,_⟩
   ·exact hh
   ·cases hh
  obtain ⟨a1,k1,rfl,ho1⟩:=HF.out _ _ _ hGE
  obtain ⟨d0,d5,d9⟩:=HS.out w1 hb1
  clear hS hGE c4 HG
  go_wp2_with fail
  refine (HDd.out w1 hb1).mono ?_
  rintro e w2 ⟨rfl,rfl⟩
  go_wp2_with fail
  refine (HRG.out w2 hb1).mono ?_
  rintro e w3 ⟨hGE,hb3⟩
  obtain ⟨a3,k3,rfl,ho3⟩:=HF.out _ _ _ hGE
  have HSm : Hid (Calls Tryz.prog 106 #[.slice a1 xs.length k1,.slice a3 xs.length k3] w3 fun e w'=>BoolIs (xs = xs) w3 e w'):=sameTexts_any _ _ _ _ xs xs w3 (own_below ho1 hb3) ho3 (by omega) (by omega)
  have HB3 : Hid (Below w.heap.size w w3/\OwnX w3 w.heap.size (.slice a1 xs.length k1) xs):=⟨belowN hb1 hb3,own_below ho1 hb3⟩
  clear hGE ho1 ho3 hb3 hb1 d0 d5 d9 HRG HDd HF
  go_wp2_with fail
  refine HSm.out.mono ?_
  rintro e w4 ⟨r,rfl,hr,hb4⟩
  have hr : r = true:=by simpa using hr
  subst hr
  have hkp:=HKp.out w4 _ xs (belowN HB3.out.1 hb4) (own_below HB3.out.2 hb4) (by omega)
  clear hb4 HSm
  go_wp2_with fail
  refine hkp.mono ?_
  rintro e w6 ⟨rfl,t6,hw6⟩
  obtain ⟨⟨hp1,hp2⟩,fz⟩:=HP.out w6 t6 hw6
  have z13:=HZ.out w6 t6
  have HQ1 : Hid (GetW W Z w q b0 b1 c b s ms fl rem p m Zd Zx Zm D L vh F n x j Y mv J S (.returned (.bool true)) w6):=hp1
  have HQ2 : Hid (GetW W Z w q b0 b1 c b s ms fl rem p m Zd Zx Zm D L vh F n x j Y mv J S (.returned (.bool true)) (w6.setCell ⟨b,13,none⟩ (.string T))):=hp2 T hT
  clear hp1 hp2 t6 hw6 hkp HKp HP HZ HI
  by_cases hM : M = 0
  ·subst hM
   go_wp2
   go_ret
   exact HQ2.out
  ·have hMb : (M == 0) = false:=by simp [hM]
   go_wp2
   go_ret
   exact HQ1.out
 ·by_cases hko : keyOK key = true
  ·have hk2 : 1<=key.size/\key.size<=40:=by unfold keyOK at hko;simpa using hko
   have k1 : ¬ (key.size : Int) < 1:=by omega
   have k2 : ¬ (40 : Int) < (key.size : Int):=by omega
   go_enter Tryz.func63,Tryz.ntmps63
   go_wp2_with fail
   refine HG.out.mono ?_
   rintro e w1 ⟨hS,hb1⟩
   obtain rfl : e = .returned (.tuple #[.slice none 0 0,.string ⟨#[]⟩,.int .i64 7]):=by
    rcases hS with ⟨hh,_⟩ | ⟨_,_,hh⟩
    ·exact absurd ⟨hko,rfl⟩ hh
    ·exact hh
   obtain ⟨d0,d5,d9⟩:=HS.out w1 hb1
   have HQ : Hid (GetW W Z w q b0 b1 c b s ms fl rem p m Zd Zx Zm D L vh F n x j Y mv J S (.returned (.bool true)) w1):=(HP.out w1 (below_tr hb1 _) (HI.out w1 hb1)).1.1
   clear hS c4 HG HRG HKp HP HZ HI HF HKo
   go_wp2_with fail
   refine (HDd.out w1 hb1).mono ?_
   rintro e w2 ⟨rfl,rfl⟩
   go_wp2
   go_ret
   exact HQ.out
  ·have hko : keyOK key = false:=by simpa using hko
   have hR:=HKo.out hko
   have hx0 : xs = []:=congrArg (fun z=>z.1) hR
   have hT0 : T = ⟨#[]⟩:=congrArg (fun z=>z.2.1) hR
   have hM0 : M = 1:=congrArg (fun z=>z.2.2) hR
   subst hx0 hT0 hM0
   have hk2 : key.size < 1\/(¬ key.size < 1/\40 < key.size):=by
    unfold keyOK at hko
    simp at hko
    omega
   have HQ : Hid (∀ w1,Below w.heap.size w w1->GetW W Z w q b0 b1 c b s ms fl rem p m Zd Zx Zm D L vh F n x j Y mv J S (.returned (.bool true)) w1):=fun w1 hb1=>(HP.out w1 (below_tr hb1 _) (HI.out w1 hb1)).1.1
   clear HKo hR HKp HP HZ HI HRG
   rcases hk2 with hk2 | ⟨hk2,hk3⟩
   ·have k1 : (key.size : Int) < 1:=by omega
    go_enter Tryz.func63,Tryz.ntmps63
    go_wp2_with fail
    refine HG.out.mono ?_
    rintro e w1 ⟨hS,hb1⟩
    have hGE : GetEnd key (S.M key) w.heap.size e w1:=by
     rcases hS with ⟨_,hh⟩ | ⟨hh,_,_⟩
     ·exact hh
     ·rw [hko] at hh;cases hh
    obtain ⟨a1,q1,rfl,ho1⟩:=HF.out _ _ _ hGE
    obtain ⟨d0,d5,d9⟩:=HS.out w1 hb1
    have HQ1:=HQ.out w1 hb1
    clear hS hGE ho1 c4 HG HQ HF
    go_wp2_with fail
    refine (HDd.out w1 hb1).mono ?_
    rintro e w2 ⟨rfl,rfl⟩
    go_wp2
    go_ret
    exact HQ1
   ·have k1 : ¬ (key.size : Int) < 1:=by omega
    have k2 : (40 : Int) < (key.size : Int):=by omega
    go_enter Tryz.func63,Tryz.ntmps63
    go_wp2_with fail
    refine HG.out.mono ?_
    rintro e w1 ⟨hS,hb1⟩
    have hGE : GetEnd key (S.M key) w.heap.size e w1:=by
     rcases hS with ⟨_,hh⟩ | ⟨hh,_,_⟩
     ·exact hh
     ·rw [hko] at hh;cases hh
    obtain ⟨a1,q1,rfl,ho1⟩:=HF.out _ _ _ hGE
    obtain ⟨d0,d5,d9⟩:=HS.out w1 hb1
    have HQ1:=HQ.out w1 hb1
    clear hS hGE ho1 c4 HG HQ HF
    go_wp2_with fail
    refine (HDd.out w1 hb1).mono ?_
    rintro e w2 ⟨rfl,rfl⟩
    go_wp2
    go_ret
    exact HQ1
end Go.Proofs.YtilkdeghknjjhaaGreatDoor
namespace Go.Proofs.YtilkdeghknjjhaaGreatDoor
open Go.RowKit M Go.Maps
def JDeadE (Z Y : Nat->Prop) (w w' : World) (e : Ending) (s d : Nat) (D : Dk) (roll : Nat) (S : St) : Prop :=
 e = .returned (.tuple #[.pointer none,.bool false])/\∃ j p Z',(∃ mv n,OpS Z' Y w' s j p d mv (.pointer none) n (jsync D ⟨roll,0,0,false⟩).2 ⟨roll,0,0,false⟩ S)/\(∀ k,Z' k->Z k\/w.heap.size<=k)/\Tr Z w w'
theorem jOpen_dead (Z Y : Nat->Prop) (s d : Nat) (mv : Value) (n : Nat) (D : Dk) (S : St) (roll : Nat) (w : World) (h : PreS Z Y w s d mv n D S) (hwf : D.WF) (hbu : D.Bud 2) (hl : D.life = 0) :
  Calls Tryz.prog 85 #[.pointer (some ⟨d,0,none⟩),.int .i64 roll,.func (.func 86) #[.pointer (some ⟨s,0,none⟩)] #[],.func (.func 87) #[.pointer (some ⟨s,0,none⟩)] #[]] w fun e w'=>JDeadE Z Y w w' e s d D roll S:=by
 have hmay : D.may = false:=by unfold Dk.may;simp [hl]
 have hjs : (jsync D ⟨roll,0,0,false⟩).1 = false:=by
  unfold jsync jsl
  rw [if_pos rfl]
  exact hmay
 have hw5:=h.vs.five
 obtain ⟨W1,hW1,HB1,HR1⟩ : ∃ W1,w.alloc (.cells #[.pointer (some ⟨d,0,none⟩),.int .i64 roll,.int .i64 0,.int .i64 0,.bool false] 199) = W1/\Hid (Below w.heap.size w W1/\W1.heap.size = w.heap.size + 1)/\Hid (JAt W1 w.heap.size d ⟨roll,0,0,false⟩) :=
  ⟨_,rfl,⟨(Below.refl _ _).alloc (Nat.le_refl _) _,by simp⟩,heap_alloc_new w _⟩
 obtain ⟨W2,hW2,HB2,HO2⟩ : ∃ W2,W1.alloc (.cells (repRow s (.pointer none)) 220) = W2/\Hid (Below w.heap.size w W2/\W2.heap.size = w.heap.size + 2)/\Hid (OpS Z Y W2 s w.heap.size W1.heap.size d mv (.pointer none) n D ⟨roll,0,0,false⟩ S):=by
  have hb12 : Below W1.heap.size W1 (W1.alloc (.cells (repRow s (.pointer none)) 220)):=(Below.refl _ _).alloc (Nat.le_refl _) _
  have hb : Below w.heap.size w (W1.alloc (.cells (repRow s (.pointer none)) 220)):=belowN HB1.out.1 hb12
  have hs1:=HB1.out.2
  have hsz : (W1.alloc (.cells (repRow s (.pointer none)) 220)).heap.size = w.heap.size + 2:=by simp;omega
  refine ⟨_,rfl,⟨hb,hsz⟩,⟨⟨h.dk.below hb,HR1.out.below hb12,h.vs.below hb⟩,h.st.below hb,heap_alloc_new W1 _,fun hz=>?_,fun hy=>?_,fun hz=>?_,fun hy=>?_,by omega,h.dj,fun q hq=>?_,h.v5,hw5,by omega⟩⟩
  ·have:=h.lz _ hz;omega
  ·have:=h.st.lt _ hy;omega
  ·have:=h.lz _ hz;omega
  ·have:=h.st.lt _ hy;omega
  ·have:=h.lz q hq;omega
 have hp1 : W1.heap.size = w.heap.size + 1:=HB1.out.2
 unfold repRow at hW2
 have HLi : Hid (∀ X,OpS Z Y X s w.heap.size W1.heap.size d mv (.pointer none) n D ⟨roll,0,0,false⟩ S->Calls Tryz.prog 123 #[.pointer (some ⟨d,0,none⟩)] X fun e w'=>∃ v,e = .returned v/\w'.ownsRow 0 9 1 v 0 []/\Below X.heap.size X w'):=fun X hX=>by
  refine (List_any Z d D X hX.side.dk hwf.ok).mono ?_
  rintro e w' ⟨v',he,ho,hb⟩
  refine ⟨v',he,?_,hb⟩
  unfold Dk.list at ho
  rw [if_pos hl] at ho
  exact own_base ho (Nat.zero_le _)
 have HNu : Hid (∀ X v,OpS Z Y X s w.heap.size W1.heap.size d mv (.pointer none) n D ⟨roll,0,0,false⟩ S->X.ownsRow 0 9 1 v 0 []->Calls Tryz.prog 146 #[v] X fun e w'=>∃ v',e = .returned v'/\w'.ownsRow X.heap.size 3 1 v' 0 []/\Below X.heap.size X w'):=fun X v hX hv=>by
  have:=numbers_any [] v X hv (by simp) (fun i hi=>by simp at hi) hX.side.vs
  have e0 : ((numsI []).mergeSort fun x y=>decide (x<=y)) = []:=by simp [numsI]
  rw [e0] at this
  exact this
 have HNe : Hid (∀ X v B0,OpS Z Y X s w.heap.size W1.heap.size d mv (.pointer none) n D ⟨roll,0,0,false⟩ S->X.ownsRow B0 3 1 v 0 []->Calls Tryz.prog 145 #[.pointer (some ⟨w.heap.size,0,none⟩),v] X fun e w'=>e = .returned v/\Below X.heap.size X w'):=fun X v B0 hX hv =>
  needed_all Z w.heap.size d D _ [] v X hX.side hwf (own_base hv (Nat.zero_le _)) (by simp) (fun i hi=>by simp at hi)
 have HSy : Hid (∀ X,OpS Z Y X s w.heap.size W1.heap.size d mv (.pointer none) n D ⟨roll,0,0,false⟩ S->Calls Tryz.prog 69 #[.pointer (some ⟨w.heap.size,0,none⟩)] X fun e w'=>e = .returned (.bool false)/\OpS (Yn Z X.heap.size w'.heap.size) Y w' s w.heap.size W1.heap.size d mv (.pointer none) n (jsync D ⟨roll,0,0,false⟩).2 ⟨roll,0,0,false⟩ S/\Tr (Zn Z X.heap.size) X w'):=fun X hX=>by
  obtain ⟨o1,o2⟩:=hX.open_
  have:=jSync_any (Zn Z X.heap.size) w.heap.size d D ⟨roll,0,0,false⟩ X o1 o2 hwf hbu (by show 0 < _;omega)
  rw [hjs] at this
  refine this.mono ?_
  rintro e w' ⟨he,h1,t1⟩
  exact ⟨he,hX.disk h1 t1,t1⟩
 clear h hwf hbu hl HR1 hmay hjs
 go_enter Tryz.func85,Tryz.ntmps85
 go_upto_region 2 with (fail)
 clear hW1
 go_upto_region 3 with (fail)
 clear hW2
 go_wp2_with fail
 refine (HLi.out W2 HO2.out).mono ?_
 rintro e w3 ⟨v3,rfl,ho3,hb3⟩
 have HO3 : Hid (OpS Z Y w3 s w.heap.size W1.heap.size d mv (.pointer none) n D ⟨roll,0,0,false⟩ S):=HO2.out.below hb3
 go_wp2_with fail
 refine (HNu.out w3 v3 HO3.out ho3).mono ?_
 rintro e w4 ⟨v4,rfl,ho4,hb4⟩
 have HO4 : Hid (OpS Z Y w4 s w.heap.size W1.heap.size d mv (.pointer none) n D ⟨roll,0,0,false⟩ S):=HO3.out.below hb4
 obtain ⟨a4,c4,hv4⟩:=own_shape ho4
 subst hv4
 go_wp2_with fail
 refine (HNe.out w4 _ _ HO4.out ho4).mono ?_
 rintro e w5 ⟨rfl,hb5⟩
 have HO5 : Hid (OpS Z Y w5 s w.heap.size W1.heap.size d mv (.pointer none) n D ⟨roll,0,0,false⟩ S):=HO4.out.below hb5
 have hs35 : w3.heap.size<=w5.heap.size:=by have:=hb4.size;have:=hb5.size;omega
 have HB5 : Hid (Below w.heap.size w w5/\w.heap.size + 2<=w3.heap.size):=⟨belowN (belowN (belowN HB2.out.1 hb3) hb4) hb5,by have:=hb3.size;have:=HB2.out.2;omega⟩
 have ho5 : w5.ownsRow w3.heap.size 3 1 (.slice a4 0 c4) 0 []:=own_below ho4 hb5
 clear HLi HNu HNe HO2 HO3 HO4 ho3 ho4 hb3 hb4 hb5 ho5 HB2 HB1 hw5 hs35 hp1
 go_upto_region 4 with (fail)
 go_loopw [28] (fun i wr=>i = .int .i64 0/\wr = w5) (fun _ _=>0)
 case atStart=>exact ⟨rfl,rfl⟩
 case round =>
  obtain ⟨rfl,rfl⟩:=hrel
  have hsy:=HSy.out wr HO5.out
  clear HSy
  go_wp2_with fail
  refine hsy.mono ?_
  rintro e w6 ⟨rfl,h6,t6⟩
  have HG : Hid (JDeadE Z Y w w6 (.returned (.tuple #[.pointer none,.bool false])) s d D roll S):=by
   have hsz:=HB5.out.1.size
   refine ⟨rfl,_,_,_,⟨_,_,h6⟩,fun q hq=>hq.imp (fun h=>h) (fun h=>by omega),?_⟩
   exact (below_tr HB5.out.1 _).trans' t6 (fun q hq hz=>by
    rcases hz with hz | hz
    ·exact hz
    ·omega)
  clear h6 t6 hsy HB5 HO5
  go_wp2
  go_ret2
  exact HG.out
theorem open_dead (Z : Nat->Prop) (d n : Nat) (D : Dk) (nd ev : Int) (roll : Nat) (ms : List Mt) (k sz : Nat) (cut sy : Bool) (hd : Nat) (w : World) (h : DiskAt Z w d D) (hvs : Vars w) (hlz : ∀ k,Z k->k < w.heap.size) (hv5 : ∀ k,k < 5->¬ Z k) (hwf : D.WF) (hbu : D.Bud 2) (hl : D.life = 0) (hJ : JD D ms k sz cut sy hd) (hg : GoodM nd zM 0 ms) (ho : optOK nd ev roll = true) :
  Calls Tryz.prog 48 #[.pointer (some ⟨d,0,none⟩),.agg #[.int .i64 nd,.int .i64 ev,.int .i64 roll]] w fun e w'=>OpenE Z w w' e d n D nd ev roll ms hd:=by
 have hw5:=hvs.five
 have hro : roll<=100000:=by unfold optOK at ho;simp at ho;omega
 obtain ⟨W1,hW1,HB1,Hrow,HB1s⟩ : ∃ W1,w.alloc (.cells #[.int .i64 nd,.int .i64 ev,.int .i64 roll] 23) = W1/\Hid (Below w.heap.size w W1)/\Hid (W1.heap[w.heap.size]? = some (.cells #[.int .i64 nd,.int .i64 ev,.int .i64 roll] 23 (0,0)))/\Hid (W1.heap.size = w.heap.size + 1) :=
  ⟨_,rfl,(Below.refl _ _).alloc (Nat.le_refl _) _,heap_alloc_new w _,by show _ = _;simp⟩
 have HAr : Hid (∀ X,Calls Tryz.prog 84 #[.agg #[.int .i64 nd,.int .i64 ev,.int .i64 roll]] X fun e w'=>e = .returned (.bool true)/\Below X.heap.size X w'):=fun X=>by
  have:=areOptions_any nd ev roll X
  rw [ho] at this;exact this
 have HX : Hid (∀ X,Below W1.heap.size W1 X->X.cell? ⟨w.heap.size,0,none⟩ = some (.int .i64 nd)/\X.cell? ⟨w.heap.size,1,none⟩ = some (.int .i64 ev)/\X.cell? ⟨w.heap.size,2,none⟩ = some (.int .i64 roll)):=fun X hX=>by
  have hr:=heap_later hX Hrow.out
  exact ⟨by rw [cell_of_row _ _ _ _ _ _ hr];rfl,by rw [cell_of_row _ _ _ _ _ _ hr];rfl,by rw [cell_of_row _ _ _ _ _ _ hr];rfl⟩
 have HOp : Hid (∀ X,Below w.heap.size w X->Calls Tryz.prog 85 #[.pointer (some ⟨d,0,none⟩),.int .i64 roll,.func (.func 86) #[.pointer (some ⟨X.heap.size,0,none⟩)] #[],.func (.func 87) #[.pointer (some ⟨X.heap.size,0,none⟩)] #[]] (X.alloc (.cells #[.pointer (some ⟨d,0,none⟩),.int .i64 nd,.int .i64 ev,.int .i64 roll,.pointer none,.map none,.int .i64 0,.int .i64 0,.bool false] 86)) fun e w' =>
   JDeadE Z (One X.heap.size) (X.alloc (.cells #[.pointer (some ⟨d,0,none⟩),.int .i64 nd,.int .i64 ev,.int .i64 roll,.pointer none,.map none,.int .i64 0,.int .i64 0,.bool false] 86)) w' e X.heap.size d D roll (stNew nd ev roll)):=fun X hX=>by
  have hb:=belowA (o:=.cells #[.pointer (some ⟨d,0,none⟩),.int .i64 nd,.int .i64 ev,.int .i64 roll,.pointer none,.map none,.int .i64 0,.int .i64 0,.bool false] 86) hX
  have hsz : (X.alloc (.cells #[.pointer (some ⟨d,0,none⟩),.int .i64 nd,.int .i64 ev,.int .i64 roll,.pointer none,.map none,.int .i64 0,.int .i64 0,.bool false] 86)).heap.size = X.heap.size + 1:=by simp
  have hXs:=hX.size
  refine jOpen_dead Z (One X.heap.size) X.heap.size d (.map none) 0 D (stNew nd ev roll) roll _ ⟨h.below hb,⟨fun q (e : q = X.heap.size)=>by omega,rfl,fun q hq=>by simp [mapBlock] at hq,heap_alloc_new X _,⟨fun _=>none,.inl ⟨rfl,fun _=>rfl⟩,fun q=>⟨fun _=>rfl,fun v hv=>by cases hv⟩⟩⟩,hvs.below hb,fun q hz (e : q = X.heap.size)=>?_,fun q hq=>?_,fun q hq=>⟨hv5 q hq,fun (e : q = X.heap.size)=>?_⟩⟩ hwf hbu hl
  ·have:=hlz q hz;omega
  ·have:=hlz q hq;omega
  ·omega
 have HRe : Hid (∀ X w' e,Below w.heap.size w X->JDeadE Z (One X.heap.size) (X.alloc (.cells #[.pointer (some ⟨d,0,none⟩),.int .i64 nd,.int .i64 ev,.int .i64 roll,.pointer none,.map none,.int .i64 0,.int .i64 0,.bool false] 86)) w' e X.heap.size d D roll (stNew nd ev roll) ->
   (e = .returned (.tuple #[.pointer none,.bool false])/\OpenE Z w w' (.returned (.tuple #[.pointer none,.int .i64 7])) d n D nd ev roll ms hd)):=fun X w' e hX hE=>by
  obtain ⟨he,j,p,Z',⟨mv',n',hops⟩,hz,t⟩:=hE
  have hXs:=hX.size
  have hb:=belowA (o:=.cells #[.pointer (some ⟨d,0,none⟩),.int .i64 nd,.int .i64 ev,.int .i64 roll,.pointer none,.map none,.int .i64 0,.int .i64 0,.bool false] 86) hX
  have hsz : (X.alloc (.cells #[.pointer (some ⟨d,0,none⟩),.int .i64 nd,.int .i64 ev,.int .i64 roll,.pointer none,.map none,.int .i64 0,.int .i64 0,.bool false] 86)).heap.size = X.heap.size + 1:=by simp
  rw [hsz] at hz
  have hmay : D.may = false:=by unfold Dk.may;simp [hl]
  have hjs : (jsync D ⟨roll,0,0,false⟩).2 = D.chg:=by
   unfold jsync jsl
   rw [if_pos rfl]
   show D.syncDir = _
   unfold Dk.syncDir
   rw [if_neg (by rw [hmay];decide)]
  have hfl : D.failed < D.chg.failed:=by
   unfold Dk.chg
   rw [if_neg (by rw [hmay];decide)]
   show D.failed < D.failed + 1
   omega
  refine ⟨he,.inr ⟨(jsync D ⟨roll,0,0,false⟩).2,Z',rfl,hops.side.dk,⟨jsync_wf hwf 0 hbu _,hg,k,sz,cut,by rw [hjs];exact hJ.less.chg⟩,by rw [hjs];exact hfl,by rw [hjs];exact D.chg_cap,fun q hq=>jsync_bud hq _,fun q hq=>(hz q hq).imp (fun h=>h) (fun h=>by omega),hops.lz,hops.side.vs,(below_tr hb Z).trans t,_,rfl⟩⟩
 clear h hvs hlz hv5 hwf hbu hl hJ hg ho hw5 hro
 go_enter Tryz.func48,Tryz.ntmps48
 go_upto_region 1 with (fail)
 clear hW1
 obtain ⟨x0,x1,x2⟩:=HX.out W1 (Below.refl _ _)
 go_wp2_with fail
 refine (HAr.out W1).mono ?_
 rintro e w2 ⟨rfl,hb2⟩
 obtain ⟨y0,y1,y2⟩:=HX.out w2 hb2
 have hb02:=belowN HB1.out hb2
 have HO:=HOp.out w2 hb02
 obtain ⟨W4,hW4,HB4,HX4⟩ : ∃ W4,w2.alloc (.cells #[.pointer (some ⟨d,0,none⟩),.int .i64 nd,.int .i64 ev,.int .i64 roll,.pointer none,.map none,.int .i64 0,.int .i64 0,.bool false] 86) = W4/\Hid (Below W1.heap.size W1 W4)/\Hid (Below w.heap.size w w2):=⟨_,rfl,belowA hb2,hb02⟩
 have HRx : Hid (∀ w' e,JDeadE Z (One w2.heap.size) W4 w' e w2.heap.size d D roll (stNew nd ev roll)->_):=fun w' e hh=>HRe.out w2 w' e hb02 (by rw [hW4];exact hh)
 rw [hW4] at HO
 clear HOp HRe hb2 hb02 HAr x0 x1 x2
 go_upto_region 4 with (fail)
 clear hW4
 obtain ⟨z0,z1,z2⟩:=HX.out W4 HB4.out
 clear y0 y1 y2
 go_wp2_with fail
 refine HO.mono ?_
 intro e w5 hE
 obtain ⟨rfl,hF⟩:=HRx.out w5 e hE
 have HF : Hid (OpenE Z w w5 (.returned (.tuple #[.pointer none,.int .i64 7])) d n D nd ev roll ms hd):=hF
 clear hF hE HRx HO
 go_wp2
 go_ret2
 exact HF.out
theorem open_all (Z : Nat->Prop) (d n : Nat) (D : Dk) (nd ev : Int) (roll : Nat) (ms : List Mt) (k sz : Nat) (cut sy : Bool) (hd : Nat) (w : World) (h : DiskAt Z w d D) (hvs : Vars w) (hlz : ∀ k,Z k->k < w.heap.size) (hv5 : ∀ k,k < 5->¬ Z k) (hwf : D.WF) (hbu : D.Bud 2) (hJ : JD D ms k sz cut sy hd) (hhd : hd<=ms.length) (hg : GoodM nd zM 0 ms) (ho : optOK nd ev roll = true) (hkf : D.files.length<=100000000)
  (hn : ms.length + k<=n) (hn2 : n < 10000000000) :
  Calls Tryz.prog 48 #[.pointer (some ⟨d,0,none⟩),.agg #[.int .i64 nd,.int .i64 ev,.int .i64 roll]] w fun e w'=>OpenE Z w w' e d n D nd ev roll ms hd:=by
 by_cases hl : D.life = 0
 ·exact open_dead Z d n D nd ev roll ms k sz cut sy hd w h hvs hlz hv5 hwf hbu hl hJ hg ho
 ·exact open_live Z d n D nd ev roll ms k sz cut sy hd w h hvs hlz hv5 hwf hbu hl hJ hhd hg ho hkf hn hn2
end Go.Proofs.YtilkdeghknjjhaaGreatDoor
namespace Go.Proofs.YtilkdeghknjjhaaGreatDoor
open Go.RowKit M Go.Maps
variable {W Z Zd Zx Zm : Nat->Prop} {q b0 b1 c b rem m n hd : Nat} {w' : World} {e : Ending} {s : Sd} {ms fl : List Mt} {D E : Dk} {L F : List MuV} {vh : Value} {J : Jn} {S : St} {nd held : Int} {cr : Bool}
def StepW (W Z : Nat->Prop) (w : World) (q b0 b1 b rem c K : Nat) (e : Ending) (w' : World) : Prop :=
 e = .returned (.bool true)/\Tr (fun k=>W k\/Z k) w w'/\∃ W' Z' c',WoR W' w' q b0 b1 c'/\c'<=c + K/\SdE Z' w' b rem/\(∀ k,Z' k->¬ W' k)/\(∀ k,W' k->W k\/w.heap.size<=k)/\(∀ k,Z' k->Z k\/w.heap.size<=k)
theorem WoR.five {w : World} (h : WoR W w q b0 b1 c) : ∀ k,W k->5<=k/\k < w.heap.size:=by
 obtain ⟨_,_,_,_,_,_,_,h4⟩:=h
 exact h4
theorem StepE.w {w : World} (h : StepE Z w b rem e w') (hW : WoR W w q b0 b1 c) (hd : ∀ k,Z k->¬ W k) (K : Nat) : StepW W Z w q b0 b1 b rem c K e w':=by
 obtain ⟨he,t,Z',h1,h2⟩:=h
 refine ⟨he,t.mono fun k _ hk=>.inr hk,W,Z',c,hW.tr t (fun k hk hz=>hd k hz hk),by omega,h1,fun k hk hw=>?_,fun k hk=>.inl hk,h2⟩
 rcases h2 k hk with hz | hz
 ·exact hd k hz hw
 ·have:=(hW.five k hw).2;omega
theorem GetW.w {w : World} {p : Nat} {x j : Nat} {Y : Nat->Prop} {mv : Value}
  (h : GetW W Z w q b0 b1 c b s ms fl (rem + 1) p m Zd Zx Zm D L vh F n x j Y mv J S e w') (hz : ∀ k,Z k->k < w.heap.size) (hb : Z b) (hd : ∀ k,Z k->¬ W k) {K : Nat} (hK : 1<=K) : StepW W Z w q b0 b1 b rem c K e w':=by
 obtain ⟨he,t,⟨W',c',g1,g2,g3⟩,T,h1,h2⟩:=h
 refine ⟨he,t.mono fun k hk hh=>?_,W',Z,c',g1,by omega,⟨_,_,_,_,_,_,_,_,_,_,_,_,_,h1.less (by omega),fun hh=>?_⟩,fun k hk hw=>?_,g3,fun k hk=>.inl hk⟩
 ·rcases hh with hh | hh | hh
  ·exact .inl hh
  ·exact .inr (hh ▸ hb)
  ·omega
 ·rw [h2.cr] at hh;cases hh
 ·rcases g3 k hw with hw | hw
  ·exact hd k hk hw
  ·have:=hz k hk;omega
theorem up0_rng (b : Int) (h1 : b<=9223372036854775807) : up0 b<=9223372036854775807/\0<=up0 b:=by unfold up0;omega
theorem DI.of (h : DI nd D ms hd) (hw : E.WF) (h1 : E.files = D.files) (h2 : E.now = D.now) (h3 : E.safe = D.safe) (h4 : E.steps = D.steps) : DI nd E ms hd:=by
 obtain ⟨k,sz,cut,hJ⟩:=h.ex
 exact ⟨hw,h.good,k,sz,cut,hJ.of h1 h2 h3 h4⟩
theorem WF_fail (h : D.WF) (b : Int) (hb : b<=9223372036854775807) : (D.fail b).WF :=
 ⟨⟨⟨(up0_rng b hb).1,h.ok.fit.l,h.ok.fit.f0,h.ok.fit.f1⟩,h.ok.now,h.ok.safe,h.ok.steps,h.ok.ln,h.ok.lf,h.ok.lt,h.ok.ls,h.ok.sz,h.ok.c0,h.ok.c1,h.ok.neg⟩,h.srt,h.ne⟩
theorem WF_die (h : D.WF) (b : Int) (hb : b<=9223372036854775807) : (D.die b).WF :=
 ⟨⟨⟨h.ok.fit.w,(up0_rng b hb).1,h.ok.fit.f0,h.ok.fit.f1⟩,h.ok.now,h.ok.safe,h.ok.steps,h.ok.ln,h.ok.lf,h.ok.lt,h.ok.ls,h.ok.sz,h.ok.c0,h.ok.c1,h.ok.neg⟩,h.srt,h.ne⟩
structure Like (D E : Dk) : Prop where
 f : E.files = D.files
 n : E.now = D.now
 s : E.safe = D.safe
 t : E.steps = D.steps
 c : E.cap = D.cap
 x : E.failed = D.failed
 w : D.WF->E.WF
theorem like_fail (D : Dk) (b : Int) (hb : b<=9223372036854775807) : Like D (D.fail b):=⟨rfl,rfl,rfl,rfl,rfl,rfl,fun h=>WF_fail h b hb⟩
theorem like_die (D : Dk) (b : Int) (hb : b<=9223372036854775807) : Like D (D.die b):=⟨rfl,rfl,rfl,rfl,rfl,rfl,fun h=>WF_die h b hb⟩
theorem Like.bud (h : Like D E) {k : Nat} (hb : D.Bud k) : E.Bud k:=⟨by rw [h.x];exact hb.f,by rw [h.f];exact hb.l,by rw [h.t];exact hb.s,by rw [h.n];exact hb.n⟩
theorem Like.si (h : Like D E) (hs : SI nd D J S ms hd) : SI nd E J S ms hd :=
 ⟨h.w hs.wf,hs.good,hs.jd.of h.f h.n h.s h.t,hs.node,hs.M,hs.cnt,hs.roll,hs.held,hs.hle,hs.ro,hs.sz⟩
theorem Like.dr (h : Like D E) (hr : DkR nd D ms fl cr held rem) : DkR nd E ms fl cr held rem:=by
 obtain ⟨md,hd,h1,h2⟩:=hr.ex
 exact ⟨⟨md,hd,h1.of (h.w h1.wf) h.f h.n h.s h.t,h2⟩,h.bud hr.bu⟩
theorem SdR.like {w : World} {p : Nat} (h : SdR Z w b s ms fl rem p m Zd Zx Zm D L vh F n) (hl : Like D E) (hE : DiskAt Zd w' p E) (t : Tr Zd w w') :
  SdR Z w' b s ms fl rem p m Zd Zx Zm E L vh F n:=by
 have hx : XIn Zd Zx w' p E s ms fl n:=by
  cases h.x with
  | none hx=>exact .none hx
  | gone hx=>exact .gone hx
  | cls x hx hc ha hz=>exact .cls x hx hc (t.heap ha (fun hd=>h.a1 x hd hz)) hz
  | opn x j Y mv J S o =>
   refine .opn x j Y mv J S ⟨o.hx,o.cl,o.cr,⟨⟨hE,o.sto.side.jn.tr t o.sto.jz,o.sto.side.vs.tr t (fun k hk=>(o.sto.v5 k hk).1)⟩,o.sto.st.tr t (fun k hk hz=>o.sto.dj k hz hk),o.sto.jz,o.sto.jy,o.sto.dj,fun k hk=>Nat.lt_of_lt_of_le (o.sto.lz k hk) t.size,o.sto.v5,o.sto.j5⟩,o.yz,o.jz,o.doc,o.ev,o.ro,o.num,fun hr=>?_⟩
   obtain ⟨h1,hd,h2,h3⟩:=o.wr hr
   exact ⟨h1,hd,hl.si h2,h3⟩
 exact ⟨h.sd.tr t h.b1,h.d,h.mm,hE,hl.dr h.dr,h.doc.tr t (fun k hk hz=>h.a2 k hz hk),hx,h.o,h.zd,h.zx,h.zm,h.zb,h.a1,h.a2,h.a3,h.b1,h.b2,h.b3,fun k hk=>⟨(h.lt k hk).1,Nat.lt_of_lt_of_le (h.lt k hk).2 t.size⟩,h.len,h.nn,h.h0,h.h1,h.u0,h.u1,h.ct⟩
theorem DkR.crash (h : DkR nd D ms fl cr held rem) (hr : rem<=120000) (keep : List Int) : D.CrOK keep/\DkR nd (D.crash keep) ms fl true held rem/\(D.crash keep).Sound:=by
 obtain ⟨md,hd,h1,h2,h3,h4,h5⟩:=h.ex
 obtain ⟨k,sz,cut,hJ⟩:=h1.ex
 have hfl : D.files.length<=100000000:=by have:=h.bu.l;omega
 have hkf:=hJ.kf
 obtain ⟨c1,c2,c3,c4,c5,c6⟩:=hJ.crash_ok h1.wf h.bu hfl keep
 obtain ⟨ms',k',sz',cut',j1,j2,j3,j4⟩:=hJ.crash (by omega) keep
 exact ⟨c1,⟨⟨ms',ms'.length,⟨c2,good_prefix h1.good j2,k',sz',cut',j1.less⟩,j2.trans h2,fun hh=>(by cases hh),by omega,Nat.le_refl _⟩,c3⟩,c4⟩
theorem SdR.crash {w : World} {p : Nat} (h : SdR Z w b s ms fl rem p m Zd Zx Zm D L vh F n) (keep : List Int) (hE : DiskAt (Zn Zd w.heap.size) w' p (D.crash keep)) (t : Tr (Zn Zd w.heap.size) w w') :
  SdR (fun k=>Z k\/(w.heap.size<=k/\k < w'.heap.size)) (w'.setCell ⟨b,11,none⟩ (.bool true)) b { s with cr:=true } ms fl rem p m (fun k=>Zn Zd w.heap.size k/\k < w'.heap.size) Zx Zm (D.crash keep) L vh F n/\Tr Z w (w'.setCell ⟨b,11,none⟩ (.bool true)):=by
 have hb:=h.lt b h.zb
 have hlen:=h.len
 have t0 : Tr Zd w w':=t.mono fun k hk hz=>by
  rcases hz with hz | hz
  ·exact hz
  ·omega
 have tb : Tr (fun k=>k = b) w' (w'.setCell ⟨b,11,none⟩ (.bool true)):=(Tr.refl (fun k=>k = b) w').setCell (p:=⟨b,11,none⟩) rfl _
 have hsz : (w'.setCell ⟨b,11,none⟩ (.bool true)).heap.size = w'.heap.size:=by simp [World.setCell]
 have hs1:=t.size
 refine ⟨⟨(heap_setCell_self (h.sd.tr t0 h.b1) 11 _).trans rfl,h.d,h.mm,hE.close.tr tb (fun k hk e=>?_),(h.dr.crash (by omega) keep).2.1,(h.doc.tr t0 (fun k hk hz=>h.a2 k hz hk)).tr tb (fun k hk e=>h.b3 (e ▸ hk)),.gone rfl,h.o,fun k hk=>?_,fun k hk=>.inl (h.zx k hk),fun k hk=>.inl (h.zm k hk),.inl h.zb,fun k hk hx=>?_,fun k hk hx=>?_,h.a3,fun hk=>?_,h.b2,h.b3,fun k hk=>?_,h.len,h.nn,h.h0,h.h1,h.u0,h.u1,h.ct⟩,(t0.mono fun k _ hk=>h.zd k hk).trans (tb.mono fun k _ hk=>hk ▸ h.zb)⟩
 ·rcases hk.1 with hz | hz
  ·exact h.b1 (e ▸ hz)
  ·have e : k = b:=e;omega
 ·rcases hk.1 with hz | hz
  ·exact .inl (h.zd k hz)
  ·exact .inr ⟨hz,hk.2⟩
 ·rcases hk.1 with hz | hz
  ·exact h.a1 k hz hx
  ·have:=(h.lt k (h.zx k hx)).2;omega
 ·rcases hk.1 with hz | hz
  ·exact h.a2 k hz hx
  ·have:=(h.lt k (h.zm k hx)).2;omega
 ·rcases hk.1 with hz | hz
  ·exact h.b1 hz
  ·omega
 ·rw [hsz]
  rcases hk with hk | hk
  ·have:=h.lt k hk;omega
  ·omega
end Go.Proofs.YtilkdeghknjjhaaGreatDoor
namespace Go.Proofs.YtilkdeghknjjhaaGreatDoor
open Go.RowKit M Go.Maps
variable {A hd q roll rem B n : Nat} {w w' : World} {Zq Z : Nat->Prop} {nd ev : Int} {D : Dk} {md ms fl : List Mt} {v : Value}
def TrialY (A : Nat) (w : World) (y : Nat) : Prop :=
 ∃ q j Z Y mv n D J S,Sto Z Y w y j q mv n D J S/\WrPre D J S/\(∀ k,Z k->A<=k)/\(∀ k,Y k->A<=k)/\A<=j/\n < 900000000000/\0<=S.cnt/\S.cnt<=1000000000000000/\∀ k,(S.M k).L.length<=6
theorem trial_put {y : Nat} (h : TrialY A w y) (k v c : ByteArray) (hk : k.size<=1000000000) (hv : v.size<=1000000000) (hc : c.size<=1000000000) (hA : A<=w.heap.size) :
  Calls Tryz.prog 25 #[.pointer (some ⟨y,0,none⟩),.string k,.string v,.string c] w fun e w'=>(∃ r : Int,e = .returned (.int .i64 r))/\Below A w w':=by
 obtain ⟨q,j,Z,Y,mv,n,D,J,S,h1,h2,h3,h4,h5,h6,h7,h8,h9⟩:=h
 refine (sput_gen Z Y y j q mv n D J S k v c w h1 (fun _=>h2) hk hv hc h6 h7 h8 (h9 k)).mono ?_
 rintro e w' ⟨he,_,t⟩
 refine ⟨⟨_,he⟩,t.below hA fun k hk hz=>?_⟩
 rcases hz with hz | hz | hz
 ·have:=h3 k hz;omega
 ·have:=h4 k hz;omega
 ·omega
structure Fnd (nd : Int) (D : Dk) (md : List Mt) (hd : Nat) : Prop where
 di : DI nd D md hd
 le : hd<=md.length
 ml : md.length<=200000
 bu : D.Bud 900000002
theorem Fnd.open (h : Fnd nd D md hd) (hq : DiskAt Zq w q D) (hvs : Vars w) (hz : ∀ k,Zq k->5<=k/\k < w.heap.size) (ho : optOK nd ev roll = true) :
  Calls Tryz.prog 48 #[.pointer (some ⟨q,0,none⟩),.agg #[.int .i64 nd,.int .i64 ev,.int .i64 roll]] w fun e w'=>OpenE Zq w w' e q 200000000 D nd ev roll md hd:=by
 obtain ⟨k,sz,cut,hJ⟩:=h.di.ex
 have hkf:=hJ.kf
 have hfl : D.files.length<=100000000:=by have:=h.bu.l;omega
 have:=h.ml
 exact open_all Zq q 200000000 D nd ev roll md k sz cut false hd w hq hvs (fun k hk=>(hz k hk).2) (fun k hk hz'=>by have:=(hz k hz').1;omega) h.di.wf (h.bu.mono (by omega)) hJ h.le h.di.good ho hfl (by omega) (by omega)
theorem trial_open (h : Fnd nd D md hd) (hq : DiskAt (fun k=>A<=k/\k < w.heap.size) w q D) (hvs : Vars w) (hA : 5<=A) (hAw : A<=w.heap.size) (ho : optOK nd ev roll = true) (n0 : 0<=nd) (n1 : nd<=15) :
  Calls Tryz.prog 48 #[.pointer (some ⟨q,0,none⟩),.agg #[.int .i64 nd,.int .i64 ev,.int .i64 roll]] w fun e w'=>Below A w w'/\((∃ y,e = .returned (.tuple #[.pointer (some ⟨y,0,none⟩),.int .i64 0])/\TrialY A w' y)\/e = .returned (.tuple #[.pointer none,.int .i64 7])):=by
 refine (h.open hq hvs (fun k hk=>⟨by omega,hk.2⟩) ho).mono ?_
 intro e w' hE
 have hml:=h.ml
 rcases hE with ⟨s,j,Z',Y',mv,n',D',J,S',he,h1,h2,h3,h4,h5,h6,h7,h8,h9,h10,h11,t,_⟩ | ⟨D',Z',he,_,_,_,_,_,_,_,_,t,_⟩
 ·have hbd:=h8 _ h.bu
  have hnum : J.num<=100000000:=by have:=JD.kf h2.jd;have:=hbd.l;omega
  have hdoc:=Doc.writ h2 n0 n1 (by omega)
  refine ⟨t.below hAw (fun k hk hz=>by omega),.inl ⟨s,he,q,j,Z',Y',mv,n',D',J,S',h1,⟨h2.wf,fun m hk hv=>jappend_wf h2.jd h2.wf (hbd.mono (by omega)) (by omega) _ (encM_size m hk hv),hbd.mono (by omega),by omega,by have:=h2.sz;omega,by have:=h2.roll;omega,by rw [h2.held];omega,by rw [h2.held,h2.cnt];exact Int.le_refl _⟩,fun k hk=>?_,fun k hk=>?_,by omega,by omega,by rw [h2.cnt];omega,by rw [h2.cnt];omega,fun k=>hdoc.l6 k⟩⟩
  ·rcases h9 k hk with hz | hz
   ·exact hz.1
   ·omega
  ·have:=h10 k hk;omega
 ·exact ⟨t.below hAw (fun k hk hz=>by omega),.inr he⟩
theorem DkR.fnd {cr : Bool} {held : Int} (h : DkR nd D ms fl cr held (rem + 1)) (hl : ms.length + fl.length<=120000) : ∃ md hd,Fnd nd D md hd/\md <+: ms ++ fl/\(cr = false->ms.length<=md.length)/\held<=hd:=by
 obtain ⟨md,hd,h1,h2,h3,h4,h5⟩:=h.ex
 have:=h2.length_le
 simp at this
 exact ⟨md,hd,⟨h1,h5,by omega,h.bu.mono (by omega)⟩,h2,h3,h4⟩
def OpnF (A : Nat) (w : World) (d : Nat) (D : Dk) (nd ev : Int) (md : List Mt) (hd : Nat) (xo : Option Addr) (r : Int) (w' : World) : Prop :=
 Tr (fun k=>A<=k) w w'/\((∃ x j Z' Y' mv n' D' J S',xo = some ⟨x,0,none⟩/\r = 0/\Sto Z' Y' w' x j d mv n' D' J S'/\SI nd D' J S' md md.length/\n'<=200000000/\S'.every = ev/\(∀ k,D.Bud (k + 2)->D'.Bud k)/\(∀ k,Z' k->A<=k)/\(∀ k,Y' k->A<=k)/\A<=j) \/
  (∃ D' Z',xo = none/\r = 7/\DiskAt Z' w' d D'/\DI nd D' md hd/\D.failed < D'.failed/\(∀ k,D.Bud (k + 2)->D'.Bud k)/\(∀ k,Z' k->A<=k/\k < w'.heap.size)/\(D.Sound->False)))
theorem opnF {W5 : World} (h : Fnd nd D md hd) {d : Nat} (hq : DiskAt Zq W5 d D) (hvs : Vars W5) (hA : 5<=A) (hz : ∀ k,Zq k->A<=k/\k < W5.heap.size) (hAw : A<=W5.heap.size) (ho : optOK nd ev roll = true) (X : World) (hX : Below W5.heap.size W5 X) :
  Calls Tryz.prog 48 #[.pointer (some ⟨d,0,none⟩),.agg #[.int .i64 nd,.int .i64 ev,.int .i64 roll]] X fun e w'=>∃ (xo : Option Addr) (r : Int),e = .returned (.tuple #[.pointer xo,.int .i64 r])/\OpnF A W5 d D nd ev md hd xo r w':=by
 have hXs:=hX.size
 refine (h.open (hq.below hX) (hvs.below hX) (fun k hk=>by have:=hz k hk;omega) ho).mono ?_
 intro e w' hE
 have tr : ∀ {Z : Nat->Prop},(∀ k,Z k->A<=k)->Tr Z X w'->Tr (fun k=>A<=k) W5 w':=fun hZ t=>(below_tr hX _).trans (t.mono fun k _ hk=>hZ k hk)
 rcases hE with ⟨s,j,Z',Y',mv,n',D',J,S',he,h1,h2,h3,h4,h5,h6,h7,h8,h9,h10,h11,t,_⟩ | ⟨D',Z',he,h1,h2,h3,h4,h5,h6,h7,h8,t,J0,hJ0⟩
 ·exact ⟨_,_,he,tr (fun k hk=>(hz k hk).1) t,.inl ⟨s,j,Z',Y',mv,n',D',J,S',rfl,rfl,h1,h2,h3,h4,h8,fun k hk=>by
   rcases h9 k hk with hh | hh
   ·exact (hz k hh).1
   ·omega,fun k hk=>by have:=h10 k hk;omega,by omega⟩⟩
 ·refine ⟨_,_,he,tr (fun k hk=>(hz k hk).1) t,.inr ⟨D',Z',rfl,rfl,h1,h2,h3,h5,fun k hk=>⟨?_,h7 k hk⟩,fun hs=>?_⟩⟩
  ·rcases h6 k hk with hh | hh
   ·exact (hz k hh).1
   ·omega
  ·have:=(sound_jsync hs J0).2
   rw [<- hJ0] at this
   omega
theorem keys_size (hg : GoodM nd zM 0 ms) {ks : List ByteArray} (h : StKeys (runMt zM ms) ks) : ∀ k ∈ ks,k.size<=40:=fun k hk=>by
 have:=(keys_iff hg k).1 ((h.2 k).1 hk)
 obtain ⟨⟨i,hi,hk⟩,_⟩:=this
 have hi2 : i < ms.length:=by simpa using hi
 have hm : mu (ms.map Mt.mu) i = ms[i].mu:=by rw [mu_get _ _ hi];simp
 rw [hm] at hk
 have h1:=good_key ms zM 0 hg ms[i] (List.getElem_mem _)
 have hk : ms[i].k = k:=hk
 rw [hk] at h1
 unfold keyOK at h1
 simp at h1
 exact h1.2
theorem cellsM_take : ∀ (l : List MuV) (n : Nat),(cellsM l).take (n * 4) = cellsM (l.take n)
 | [],n=>by simp [cellsM]
 | e :: r,0=>by simp [cellsM]
 | e :: r,n + 1=>by
  rw [show (n + 1) * 4 = n * 4 + 1 + 1 + 1 + 1 by omega]
  simp only [cellsM,List.take_succ_cons]
  rw [cellsM_take r n]
theorem one_cellsM : ∀ (l : List MuV),(∀ y ∈ l,y.s.oneCell' = true)->∀ u ∈ cellsM l,u.oneCell' = true
 | [],_,u,h=>by simp [cellsM] at h
 | e :: r,hl,u,h=>by
  simp only [cellsM,List.mem_cons] at h
  rcases h with h | h | h | h | h
  ·subst h;rfl
  ·subst h;rfl
  ·subst h;rfl
  ·subst h;exact hl e (by simp)
  ·exact one_cellsM r (fun y hy=>hl y (by simp [hy])) u h
theorem Rd.one_cell {l : List (Int × Int)} (h : Rd w v l) : v.oneCell' = true:=by
 obtain ⟨a,c,rfl,_⟩:=h
 rfl
theorem own_take {e size N c : Nat} {a : Option Addr} {xs : List Value} (h : w.ownsRow B e size (.slice a N c) N xs) (hn : n<=N) : w.ownsRow B e size (.slice a n c) n (xs.take (n * size)):=by
 refine ⟨by rw [List.length_take,h.1,Nat.min_eq_left (Nat.mul_le_mul_right _ hn)],?_⟩
 rcases h.2 with ⟨hv,h0⟩ | ⟨g,cap,cur,hv,hb,hg,hnc,hcm,hcs,htk⟩
 ·injection hv with h1 h2 h3
  subst h1 h3
  have : n = 0:=by omega
  subst this
  exact .inl ⟨rfl,rfl⟩
 ·injection hv with h1 h2 h3
  subst h1 h3
  refine .inr ⟨g,c,cur,rfl,hb,hg,by omega,hcm,hcs,?_⟩
  rw [<- htk,List.take_take,Nat.min_eq_left (Nat.mul_le_mul_right _ hn)]
theorem Below.tr0 (h : Below B w w') (hz : ∀ k,B<=k->Z k) : Tr Z w w':=⟨h.os,h.tape,h.output,h.size,fun k hk hn=>h.block k (by
 by_cases hb : B<=k
 ·exact absurd (hz k hb) hn
 ·omega)⟩
theorem grown_below (hg : w.drew.grownBy w' v.ownBlock) (hB : B<=w.heap.size) (hv : ∀ k,v.ownBlock = some k->B<=k) : Below B w w' :=
 ⟨hg.os,hg.tape,hg.output,hg.size,fun k hk=>hg.block k (Nat.lt_of_lt_of_le hk hB) (fun e=>by have:=hv k e.symm;omega)⟩
theorem SdR.found {b : Nat} {s : Sd} {p m : Nat} {Zd Zx Zm : Nat->Prop} {L : List MuV} {vh : Value} {F : List MuV} (h : SdR Z w b s ms fl (rem + 1) p m Zd Zx Zm D L vh F n)
  {Ws : World} {x j g m' n' A7 : Nat} {Z' Y' : Nat->Prop} {mv v' : Value} {D' : Dk} {J : Jn} {S' : St} (hA : w.heap.size<=A7) (hA2 : A7<=m') (hA3 : m' < Ws.heap.size) (t : ByteArray) (htz : t.size<=1000000)
  (sd : SdAt Ws b ⟨.pointer (some ⟨g,0,none⟩),s.n,s.ev,s.r,.pointer (some ⟨x,0,none⟩),.pointer (some ⟨m',0,none⟩),.slice none 0 0,md.length,0,false,false,false,s.sp,t⟩)
  (sto : Sto Z' Y' Ws x j g mv n' D' J S') (lz : ∀ k,Z' k->w.heap.size<=k/\k < A7) (ly : ∀ k,Y' k->w.heap.size<=k/\k < A7) (lj : w.heap.size<=j/\j < A7) (si : SI s.n D' J S' md md.length) (hn : n'<=200000000) (hev : S'.every = s.ev) (hbu : D'.Bud (900000000 + 20 * rem))
  (tr : Tr (fun k=>k = b\/w.heap.size<=k) w Ws) (mp : Ws.heap[m']? = some (.cells #[.int .i64 s.n,v'] 132 (0,0))) (ro : Ws.ownsRow 0 191 4 v' md.length (cellsM ((L ++ F).take md.length))) (vz : InZ (fun k=>m'<=k/\k < Ws.heap.size) v') (hpre : md <+: ms ++ fl) :
  SdR (fun k=>Z k\/(w.heap.size<=k/\k < A7)\/(m'<=k/\k < Ws.heap.size)) Ws b ⟨.pointer (some ⟨g,0,none⟩),s.n,s.ev,s.r,.pointer (some ⟨x,0,none⟩),.pointer (some ⟨m',0,none⟩),.slice none 0 0,md.length,0,false,false,false,s.sp,t⟩ md [] rem g m' Z' (fun k=>Y' k\/k = j) (fun k=>Zm k\/(m'<=k/\k < Ws.heap.size)) D' ((L ++ F).take md.length) v' [] n' /\
  OpnIn Z' (fun k=>Y' k\/k = j) Ws g D' ⟨.pointer (some ⟨g,0,none⟩),s.n,s.ev,s.r,.pointer (some ⟨x,0,none⟩),.pointer (some ⟨m',0,none⟩),.slice none 0 0,md.length,0,false,false,false,s.sp,t⟩ md [] n' x j Y' mv J S':=by
 have hb:=h.lt b h.zb
 have hlen:=h.len
 have hdl:=h.doc.len
 have hpl:=hpre.length_le
 simp at hpl
 have ho:=h.o
 have hnd : 0<=s.n/\s.n<=15:=by unfold optOK at ho;simp at ho;omega
 have hdoc:=h.doc.tr tr (fun k hk hh=>by
  rcases hh with e | e
  ·exact h.b3 (e ▸ hk)
  ·have:=(h.lt k (h.zm k hk)).2;omega)
 have hLF : (L ++ F).map MuV.x = (ms ++ fl).map Mt.mu:=by rw [List.map_append,List.map_append,h.doc.me,h.doc.fe]
 have hme : ((L ++ F).take md.length).map MuV.x = md.map Mt.mu:=by
  rw [List.map_take,hLF,<- List.map_take]
  congr 1
  obtain ⟨r,hr⟩:=hpre
  rw [<- hr];simp
 have hl : ((L ++ F).take md.length).length = md.length:=by
  have:=congrArg List.length hme
  simpa using this
 have hrc : ∀ y ∈ L ++ F,Rd Ws y.s y.x.c/\InZ Zm y.s:=fun y hy=>by
  rcases List.mem_append.1 hy with hy | hy
  ·exact ⟨hdoc.mi.rc y hy,hdoc.mi.zc y hy⟩
  ·exact ⟨hdoc.fr y hy,hdoc.fy y hy⟩
 have hmt : ModT Ws (L ++ F):=fun y hy=>by
  rcases List.mem_append.1 hy with hy | hy
  ·exact hdoc.mt y hy
  ·exact hdoc.ft y hy
 have hdS:=Doc.writ si hnd.1 hnd.2 (by omega)
 have hnum : J.num<=100000000:=by have:=JD.kf si.jd;have:=hbu.l;omega
 have hop : OpnIn Z' (fun k=>Y' k\/k = j) Ws g D' ⟨.pointer (some ⟨g,0,none⟩),s.n,s.ev,s.r,.pointer (some ⟨x,0,none⟩),.pointer (some ⟨m',0,none⟩),.slice none 0 0,md.length,0,false,false,false,s.sp,t⟩ md [] n' x j Y' mv J S' :=
  ⟨rfl,rfl,rfl,sto,fun k hk=>.inl hk,.inr rfl,hdS,hev,si.ro,by omega,fun _=>⟨rfl,md.length,si,rfl,by show (0 : Int) = _;omega⟩⟩
 have hm5 : 5<=w.heap.size:=by omega
 refine ⟨⟨sd,rfl,rfl,sto.side.dk,⟨⟨md,md.length,si.di,by simp,fun _=>Nat.le_refl _,Int.le_refl _,Nat.le_refl _⟩,hbu⟩,⟨⟨.inr ⟨Nat.le_refl _,hA3⟩,mp,by rw [hl];exact ro,fun y hy=>(hrc y (List.mem_of_mem_take hy)).1,fun k hk=>.inr (vz k hk),fun y hy k hk=>.inl ((hrc y (List.mem_of_mem_take hy)).2 k hk)⟩,fun y hy=>hmt y (List.mem_of_mem_take hy),hme,⟨rfl,.inl ⟨rfl,rfl⟩⟩,fun k hk=>(by cases hk),fun y hy=>by simp at hy,fun y hy=>by simp at hy,fun y hy=>by simp at hy,rfl,by simp,fun _=>rfl⟩,.opn x j Y' mv J S' hop,h.o,
  fun k hk=>.inr (.inl (lz k hk)),fun k hk=>?_,fun k hk=>?_,.inl h.zb,fun k hk hx=>?_,fun k hk hx=>?_,fun k hk hx=>?_,fun hk=>?_,fun hk=>?_,fun hk=>?_,fun k hk=>?_,by simp;omega,by omega,by show (0 : Int)<=md.length;omega,Int.le_refl _,Int.le_refl _,by show (0 : Int)<=md.length;omega,htz⟩,hop⟩
 ·rcases hk with hk | rfl
  ·exact .inr (.inl (ly k hk))
  ·exact .inr (.inl lj)
 ·exact hk.imp (h.zm k) (fun hh=>.inr hh)
 ·rcases hx with hx | rfl
  ·exact sto.dj k hk hx
  ·exact sto.jz hk
 ·have:=lz k hk
  rcases hx with hx | hx
  ·have:=(h.lt k (h.zm k hx)).2;omega
  ·omega
 ·have hkk : w.heap.size<=k/\k < A7:=by
   rcases hk with hk | rfl
   ·exact ly k hk
   ·exact lj
  rcases hx with hx | hx
  ·have:=(h.lt k (h.zm k hx)).2;omega
  ·omega
 ·have:=lz b hk;omega
 ·rcases hk with hk | hk
  ·have:=ly b hk;omega
  ·omega
 ·rcases hk with hk | hk
  ·exact h.b3 hk
  ·omega
 ·have:=tr.size
  rcases hk with hk | hk | hk
  ·have:=h.lt k hk;omega
  ·omega
  ·omega
end Go.Proofs.YtilkdeghknjjhaaGreatDoor
