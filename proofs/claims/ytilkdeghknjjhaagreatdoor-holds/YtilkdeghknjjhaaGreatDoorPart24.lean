/- A part of the proof. -/
import Derived.Test.YtilkdeghknjjhaaGreatDoorPart21
import Derived.Test.YtilkdeghknjjhaaGreatDoorPart23
import Derived.Lib.Itoa
import Derived.Lib.AtoiAll
set_option maxRecDepth 20000
set_option maxHeartbeats 3200000
set_option linter.unusedVariables false
namespace Go.Proofs.YtilkdeghknjjhaaGreatDoor
open Go.RowKit M
def OptOK (n e r : Int) : Prop:=0<=n/\n<=15/\0<=e/\e<=100/\400<=r/\r<=100000
theorem refOptions_any (n e r : Int) (w : World) :
  Calls Tryz.prog 58 #[.agg #[.int .i64 n,.int .i64 e,.int .i64 r]] w fun en w'=>BoolIs (OptOK n e r) w en w':=by
 by_cases h1 : 0<=n
 rotate_left
 ·have HN : Hid (¬ OptOK n e r):=fun h=>h1 h.1
  go_enter Tryz.func58,Tryz.ntmps58
  go_wp2
  go_ret
  exact ⟨false,rfl,by simp;exact HN.out,(Below.refl _ _).alloc (Nat.le_refl _) _⟩
 by_cases h2 : n<=15
 rotate_left
 ·have HN : Hid (¬ OptOK n e r):=fun h=>h2 h.2.1
  go_enter Tryz.func58,Tryz.ntmps58
  go_wp2
  go_ret
  exact ⟨false,rfl,by simp;exact HN.out,(Below.refl _ _).alloc (Nat.le_refl _) _⟩
 by_cases h3 : 0<=e
 rotate_left
 ·have HN : Hid (¬ OptOK n e r):=fun h=>h3 h.2.2.1
  go_enter Tryz.func58,Tryz.ntmps58
  go_wp2
  go_ret
  exact ⟨false,rfl,by simp;exact HN.out,(Below.refl _ _).alloc (Nat.le_refl _) _⟩
 by_cases h4 : e<=100
 rotate_left
 ·have HN : Hid (¬ OptOK n e r):=fun h=>h4 h.2.2.2.1
  go_enter Tryz.func58,Tryz.ntmps58
  go_wp2
  go_ret
  exact ⟨false,rfl,by simp;exact HN.out,(Below.refl _ _).alloc (Nat.le_refl _) _⟩
 by_cases h5 : 400<=r
 rotate_left
 ·have HN : Hid (¬ OptOK n e r):=fun h=>h5 h.2.2.2.2.1
  go_enter Tryz.func58,Tryz.ntmps58
  go_wp2
  go_ret
  exact ⟨false,rfl,by simp;exact HN.out,(Below.refl _ _).alloc (Nat.le_refl _) _⟩
 by_cases h6 : r<=100000
 rotate_left
 ·have HN : Hid (¬ OptOK n e r):=fun h=>h6 h.2.2.2.2.2
  go_enter Tryz.func58,Tryz.ntmps58
  go_wp2
  go_ret
  exact ⟨false,rfl,by simp;exact HN.out,(Below.refl _ _).alloc (Nat.le_refl _) _⟩
 have HY : Hid (OptOK n e r):=⟨h1,h2,h3,h4,h5,h6⟩
 go_enter Tryz.func58,Tryz.ntmps58
 go_wp2
 go_ret
 exact ⟨true,rfl,by simp;exact HY.out,(Below.refl _ _).alloc (Nat.le_refl _) _⟩
theorem trouble_any (Z : Nat->Prop) (b p : Nat) (D : Dk) (f : Int) (w : World) (hd : w.cell? ⟨b,0,none⟩ = some (.pointer (some ⟨p,0,none⟩))) (h : DiskAt Z w p D) :
  Calls Tryz.prog 104 #[.pointer (some ⟨b,0,none⟩),.int .i64 f] w fun e w'=>BoolIs (f < D.failed\/D.life = 0) w e w':=by
 have HF : Hid (Calls Tryz.prog 103 #[.pointer (some ⟨p,0,none⟩)] w fun e w'=>e = .returned (.int .i64 D.failed)/\w' = w):=Failed_any Z p D w h
 have HD : Hid (Calls Tryz.prog 54 #[.pointer (some ⟨p,0,none⟩)] w fun e w'=>e = .returned (.bool (D.life == 0))/\w' = w):=Dead_any Z p D w h
 clear h
 by_cases h1 : f < D.failed
 ·go_enter Tryz.func104,Tryz.ntmps104
  go_wp2_with (first
   | (go_at_call 103;refine HF.out.mono ?_;rintro e w' ⟨rfl,rfl⟩)
   | (go_at_call 54;refine HD.out.mono ?_;rintro e w' ⟨rfl,rfl⟩))
  go_ret
  exact ⟨true,rfl,by simp [h1],Below.refl _ _⟩
 by_cases h2 : D.life = 0
 ·have h2' : (D.life == 0) = true:=by simp [h2]
  have HL : Hid (D.life = 0):=h2
  rw [h2'] at HD
  clear h2
  go_enter Tryz.func104,Tryz.ntmps104
  go_wp2_with (first
   | (go_at_call 103;refine HF.out.mono ?_;rintro e w' ⟨rfl,rfl⟩)
   | (go_at_call 54;refine HD.out.mono ?_;rintro e w' ⟨rfl,rfl⟩))
  go_ret
  exact ⟨true,rfl,by simp;exact .inr HL.out,Below.refl _ _⟩
 ·have h2' : (D.life == 0) = false:=by simp [h2]
  have HL : Hid (D.life ≠ 0):=h2
  rw [h2'] at HD
  clear h2
  go_enter Tryz.func104,Tryz.ntmps104
  go_wp2_with (first
   | (go_at_call 103;refine HF.out.mono ?_;rintro e w' ⟨rfl,rfl⟩)
   | (go_at_call 54;refine HD.out.mono ?_;rintro e w' ⟨rfl,rfl⟩))
  go_ret
  exact ⟨_,rfl,by simp;exact fun h=>absurd h HL.out,Below.refl _ _⟩
end Go.Proofs.YtilkdeghknjjhaaGreatDoor
namespace Go.Proofs.YtilkdeghknjjhaaGreatDoor
open Go.RowKit M
variable {w w' : World} {b : Nat}
structure Sd where
 d : Value
 n : Int
 ev : Int
 r : Int
 x : Value
 m : Value
 fl : Value
 held : Int
 un : Int
 cl : Bool
 ro : Bool
 cr : Bool
 sp : Bool
 ctx : ByteArray
def Sd.row (s : Sd) : Array Value:=#[s.d,.int .i64 s.n,.int .i64 s.ev,.int .i64 s.r,s.x,s.m,s.fl,.int .i64 s.held,.int .i64 s.un,.bool s.cl,.bool s.ro,.bool s.cr,.bool s.sp,.string s.ctx]
def SdAt (w : World) (b : Nat) (s : Sd) : Prop:=w.heap[b]? = some (.cells s.row 134 (0,0))
theorem SdAt.cell {s : Sd} (h : SdAt w b s) (o : Nat) : w.cell? ⟨b,o,none⟩ = s.row[o]?:=by rw [cell_of_row _ _ _ _ _ _ h]
theorem SdAt.frozen {s : Sd} (h : SdAt w b s) (o : Nat) : w.frozen? ⟨b,o,none⟩ = false:=frozen_of_row _ _ _ _ _ h
theorem SdAt.lt {s : Sd} (h : SdAt w b s) : b < w.heap.size:=(Array.getElem?_eq_some_iff.1 h).1
theorem SdAt.tr {Z : Nat->Prop} {s : Sd} (h : SdAt w b s) (t : Tr Z w w') (hz : ¬ Z b) : SdAt w' b s:=(t.block b h.lt hz).trans h
theorem SdAt.below {s : Sd} (h : SdAt w b s) (t : Below w.heap.size w w') : SdAt w' b s:=(t.block b h.lt).trans h
theorem SdAt.setRO {s : Sd} (h : SdAt w b s) (v : Bool) : SdAt (w.setCell ⟨b,10,none⟩ (.bool v)) b { s with ro:=v }:=(heap_setCell_self h 10 _).trans rfl
def refB (dead : Bool) (e want : Int) : Bool:=e == 7 && dead && (want == 5 || want == 0)
theorem refused_any (Z : Nat->Prop) (b p : Nat) (s : Sd) (D : Dk) (e want f : Int) (w : World) (h : SdAt w b s) (hd : s.d = .pointer (some ⟨p,0,none⟩)) (hD : DiskAt Z w p D) :
  Calls Tryz.prog 112 #[.pointer (some ⟨b,0,none⟩),.int .i64 e,.int .i64 want,.int .i64 f] w fun en w'=>en = .returned (.bool (refB (D.life == 0) e want || e == want))/\SdAt w' b { s with ro:=s.ro || refB (D.life == 0) e want }/\Tr (fun k=>k = b) w w':=by
 have HD : Hid (Calls Tryz.prog 54 #[.pointer (some ⟨p,0,none⟩)] w fun e w'=>e = .returned (.bool (D.life == 0))/\w' = w):=Dead_any Z p D w hD
 have c0 : w.cell? ⟨b,0,none⟩ = some (.pointer (some ⟨p,0,none⟩)):=(h.cell 0).trans (congrArg some hd)
 have c10 : w.cell? ⟨b,10,none⟩ = some (.bool s.ro):=(h.cell 10).trans rfl
 have fz:=h.frozen
 have HY : Hid (SdAt (w.setCell ⟨b,10,none⟩ (.bool true)) b { s with ro:=true }/\Tr (fun k=>k = b) w (w.setCell ⟨b,10,none⟩ (.bool true))):=⟨h.setRO true,(Tr.refl (fun k=>k = b) w).setCell (p:=⟨b,10,none⟩) rfl _⟩
 have HN : Hid (SdAt w b s):=h
 obtain ⟨dead,hdd⟩ : ∃ x,(D.life == 0) = x:=⟨_,rfl⟩
 rw [hdd] at HD ⊢
 clear h hd hD hdd
 by_cases hA : refB dead e want = true
 ·have HE : Hid (Calls Tryz.prog 112 #[.pointer (some ⟨b,0,none⟩),.int .i64 e,.int .i64 want,.int .i64 f] w fun en w'=>en = .returned (.bool true)/\w' = w.setCell ⟨b,10,none⟩ (.bool true)):=by
   have h7 : e = 7/\dead = true/\(want = 5\/want = 0):=by unfold refB at hA;simp at hA;exact ⟨hA.1.1,hA.1.2,hA.2⟩
   obtain ⟨rfl,rfl,hw⟩:=h7
   clear hA HY HN
   rcases hw with rfl | rfl
   all_goals
    go_enter Tryz.func112,Tryz.ntmps112
    go_wp2_with fail
    refine HD.out.mono ?_
    rintro e w1 ⟨rfl,rfl⟩
    go_wp2
    go_ret
    exact ⟨rfl,rfl⟩
  refine HE.out.mono ?_
  rintro en w' ⟨rfl,rfl⟩
  rw [hA]
  exact ⟨by simp,by simpa using HY.out.1,HY.out.2⟩
 ·have hA : refB dead e want = false:=by simpa using hA
  have HE : Hid (Calls Tryz.prog 112 #[.pointer (some ⟨b,0,none⟩),.int .i64 e,.int .i64 want,.int .i64 f] w fun en w'=>en = .returned (.bool (e == want))/\w' = w):=by
   unfold refB at hA
   by_cases h7 : e = 7
   ·subst h7
    cases dead
    ·go_enter Tryz.func112,Tryz.ntmps112
     go_wp2_with fail
     refine HD.out.mono ?_
     rintro e w1 ⟨rfl,rfl⟩
     go_wp2
     go_ret
     exact ⟨rfl,rfl⟩
    ·have h5 : ¬ want = 5:=fun h=>by subst h;simp at hA
     have h0 : ¬ want = 0:=fun h=>by subst h;simp at hA
     have h5b : (want == 5) = false:=by simp [h5]
     have h0b : (want == 0) = false:=by simp [h0]
     clear hA
     go_enter Tryz.func112,Tryz.ntmps112
     go_wp2_with fail
     refine HD.out.mono ?_
     rintro e w1 ⟨rfl,rfl⟩
     go_wp2
     go_ret
     exact ⟨rfl,rfl⟩
   ·have h7b : (e == 7) = false:=by simp [h7]
    clear hA
    go_enter Tryz.func112,Tryz.ntmps112
    go_wp2_with fail
    refine HD.out.mono ?_
    rintro e w1 ⟨rfl,rfl⟩
    go_wp2
    go_ret
    exact ⟨rfl,rfl⟩
  refine HE.out.mono ?_
  rintro en w' ⟨rfl,rfl⟩
  rw [hA]
  refine ⟨by simp,?_,Tr.refl _ _⟩
  rw [Bool.or_false];exact HN.out
end Go.Proofs.YtilkdeghknjjhaaGreatDoor
namespace Go.Proofs.YtilkdeghknjjhaaGreatDoor
open Go.RowKit M
structure Mt where
 del : Bool
 node : Int
 count : Int
 k : ByteArray
 c : List (Int × Int)
 v : ByteArray
abbrev Bs:=List UInt8
def bs (b : ByteArray) : Bs:=b.data.toList
theorem bs_len (b : ByteArray) : (bs b).length = b.size:=by cases b;rfl
def szB (t : Bs) : Bs:=UInt8.ofNat t.length :: t
noncomputable def clkB (c : List (Int × Int)) : Bs:=bs (encT c)
noncomputable def encB (m : Mt) : Bs:=(if m.del = true then 2 else 1) :: (clkB [(m.node,m.count)] ++ (clkB m.c ++ (szB (bs m.k) ++ szB (bs m.v))))
structure Rr where
 a : Nat
 s : Bool
def rtake (l : Bs) (r : Rr) (n : Nat) : Bs × Rr:=if r.s = true\/l.length - r.a < n then ([],⟨r.a,true⟩) else ((l.drop r.a).take n,⟨r.a + n,false⟩)
def rlen (l : Bs) (r : Rr) : Nat × Rr:=(((rtake l r 1).1.getD 0 0).toNat,(rtake l r 1).2)
def rwords (l : Bs) (r : Rr) : Bs × Rr:=rtake l (rlen l r).2 (rlen l r).1
def atoiV (t : Bs) : Int:=match Lib.atoiAll t with | .ok n=>n | .«syntax»=>0 | .range=>Lib.atoiSat t
def atoiOK (t : Bs) : Bool:=match Lib.atoiAll t with | .ok _=>true | _=>false
def rpart (l : Bs) (r : Rr) : Bs × Rr:=((l.drop r.a).take ((rtake l (rlen l r).2 ((rlen l r).1 * 9)).2.a - r.a),(rtake l (rlen l r).2 ((rlen l r).1 * 9)).2)
noncomputable def rclk (l : Bs) (r : Rr) : List (Int × Int) × Rr:=open Classical in
 if Dec (rpart l r).1 then (rdTo (rpart l r).1 (hd (rpart l r).1),(rpart l r).2) else ([],⟨(rpart l r).2.a,true⟩)
noncomputable def rdot (l : Bs) (r : Rr) : (Int × Int) × Rr :=
 if (rclk l r).1.length ≠ 1 then ((0,0),⟨(rclk l r).2.a,true⟩) else ((rclk l r).1.getD 0 (0,0),(rclk l r).2)
def ba (t : Bs) : ByteArray:=⟨t.toArray⟩
noncomputable def rmut (l : Bs) (r : Rr) (gone : Bool) : Mt × Rr :=
 let d:=rdot l r
 let c:=rclk l d.2
 let k:=rwords l c.2
 let v:=rwords l k.2
 (⟨gone,d.1.1,d.1.2,ba k.1,c.1,ba v.1⟩,v.2)
end Go.Proofs.YtilkdeghknjjhaaGreatDoor
namespace Go.Proofs.YtilkdeghknjjhaaGreatDoor
open Go.RowKit M
structure Good {α : Type} (f : Bs->Rr->α × Rr) : Prop where
 stay : ∀ l r,r.s = true->(f l r).2.s = true
 mono : ∀ l r,(f l r).2.s = false->r.a<=l.length->r.a<=(f l r).2.a/\(f l r).2.a<=l.length
 cut : ∀ l r n,(f l r).2.s = false->r.a<=n->n<=l.length->((f l r).2.a<=n->f (l.take n) r = f l r)/\(n < (f l r).2.a->(f (l.take n) r).2.s = true)
theorem Good.start {α : Type} {f : Bs->Rr->α × Rr} (h : Good f) {l : Bs} {r : Rr} (hs : (f l r).2.s = false) : r.s = false:=by
 cases hr : r.s
 ·rfl
 ·rw [h.stay l r hr] at hs;cases hs
theorem rtake_short (l : Bs) (r : Rr) (n : Nat) (h : r.s = true\/l.length - r.a < n) : rtake l r n = ([],⟨r.a,true⟩):=by unfold rtake;rw [if_pos h]
theorem rtake_ok (l : Bs) (r : Rr) (n : Nat) (h : r.s = false) (h2 : n<=l.length - r.a) : rtake l r n = ((l.drop r.a).take n,⟨r.a + n,false⟩):=by
 unfold rtake;rw [if_neg (by rw [h];simp;omega)]
theorem rtake_inv {l : Bs} {r : Rr} {n : Nat} (h : (rtake l r n).2.s = false) : r.s = false/\n<=l.length - r.a:=by
 unfold rtake at h
 split at h
 ·cases h
 ·rename_i hn
  exact ⟨by cases hr : r.s <;> simp_all,by omega⟩
theorem good_take (m : Nat) : Good (fun l r=>rtake l r m) where
 stay:=fun l r h=>by rw [rtake_short l r m (.inl h)]
 mono:=fun l r h hl=>by
  obtain ⟨h1,h2⟩:=rtake_inv h
  show r.a<=(rtake l r m).2.a/\(rtake l r m).2.a<=l.length
  rw [rtake_ok l r m h1 h2]
  exact ⟨Nat.le_add_right _ _,by show r.a + m<=_;omega⟩
 cut:=fun l r n h hn hl=>by
  obtain ⟨h1,h2⟩:=rtake_inv h
  show ((rtake l r m).2.a<=n->rtake (l.take n) r m = rtake l r m)/\(n < (rtake l r m).2.a->(rtake (l.take n) r m).2.s = true)
  have hlen : (l.take n).length = n:=by simp;omega
  rw [rtake_ok l r m h1 h2]
  refine ⟨fun h3=>?_,fun h3=>?_⟩
  ·have h4 : r.a + m<=n:=h3
   rw [rtake_ok (l.take n) r m h1 (by omega),List.drop_take,List.take_take,Nat.min_eq_left (by omega)]
  ·have h4 : n < r.a + m:=h3
   rw [rtake_short _ _ _ (.inr (by omega))]
def bindR {α β : Type} (f : Bs->Rr->α × Rr) (g : α->Bs->Rr->β × Rr) : Bs->Rr->β × Rr:=fun l r=>g (f l r).1 l (f l r).2
theorem Good.bind {α β : Type} {f : Bs->Rr->α × Rr} {g : α->Bs->Rr->β × Rr} (hf : Good f) (hg : ∀ a,Good (g a)) : Good (bindR f g) where
 stay:=fun l r h=>(hg _).stay _ _ (hf.stay l r h)
 mono:=fun l r h hl=>by
  have h1 : (f l r).2.s = false:=(hg _).start h
  obtain ⟨a,b⟩:=hf.mono l r h1 hl
  obtain ⟨c,d⟩:=(hg _).mono l (f l r).2 h b
  exact ⟨Nat.le_trans a c,d⟩
 cut:=fun l r n h hn hl=>by
  have h1 : (f l r).2.s = false:=(hg _).start h
  have ⟨a,b⟩:=hf.mono l r h1 (by omega)
  have ⟨c,d⟩:=(hg _).mono l (f l r).2 h b
  obtain ⟨f1,f2⟩:=hf.cut l r n h1 hn hl
  refine ⟨fun h3=>?_,fun h3=>?_⟩
  ·have h4 : (f l r).2.a<=n:=Nat.le_trans c h3
   show g (f (l.take n) r).1 (l.take n) (f (l.take n) r).2 = g (f l r).1 l (f l r).2
   rw [f1 h4]
   exact ((hg _).cut l (f l r).2 n h h4 hl).1 h3
  ·show (g (f (l.take n) r).1 (l.take n) (f (l.take n) r).2).2.s = true
   by_cases h4 : (f l r).2.a<=n
   ·rw [f1 h4]
    exact ((hg _).cut l (f l r).2 n h h4 hl).2 h3
   ·exact (hg _).stay _ _ (f2 (by omega))
def mapR {α β : Type} (f : Bs->Rr->α × Rr) (g : α->β) (bad : α->Bool) : Bs->Rr->β × Rr:=fun l r=>(g (f l r).1,⟨(f l r).2.a,(f l r).2.s || bad (f l r).1⟩)
theorem Good.map {α β : Type} {f : Bs->Rr->α × Rr} (hf : Good f) (g : α->β) (bad : α->Bool) : Good (mapR f g bad) where
 stay:=fun l r h=>by show ((f l r).2.s || _) = true;rw [hf.stay l r h];rfl
 mono:=fun l r h hl=>by
  have h1 : ((f l r).2.s || bad (f l r).1) = false:=h
  exact hf.mono l r (by cases hs : (f l r).2.s <;> simp_all) hl
 cut:=fun l r n h hn hl=>by
  have h1 : ((f l r).2.s || bad (f l r).1) = false:=h
  obtain ⟨f1,f2⟩:=hf.cut l r n (by cases hs : (f l r).2.s <;> simp_all) hn hl
  refine ⟨fun h3=>?_,fun h3=>?_⟩
  ·show (_,_) = (_,_)
   rw [f1 h3]
  ·show ((f (l.take n) r).2.s || _) = true
   rw [f2 h3];rfl
theorem rlen_eq : rlen = mapR (fun l r=>rtake l r 1) (fun t=>(t.getD 0 0).toNat) (fun _=>false):=by
 funext l r
 show (_,_) = (_,_)
 simp
theorem good_len : Good rlen:=by rw [rlen_eq];exact (good_take 1).map _ _
theorem good_words : Good rwords:=good_len.bind fun n=>good_take n
def rskip (l : Bs) (r : Rr) : Unit × Rr:=((),(rtake l (rlen l r).2 ((rlen l r).1 * 9)).2)
theorem good_skip : Good rskip:=by
 have : rskip = mapR (bindR rlen (fun n l r=>rtake l r (n * 9))) (fun _=>()) (fun _=>false):=by
  funext l r
  show (_,_) = (_,_)
  simp [bindR]
 rw [this]
 exact (good_len.bind fun n=>good_take (n * 9)).map _ _
theorem rpart_two (l : Bs) (r : Rr) : rpart l r = ((l.drop r.a).take ((rskip l r).2.a - r.a),(rskip l r).2):=rfl
theorem good_part : Good rpart where
 stay:=fun l r h=>good_skip.stay l r h
 mono:=fun l r h hl=>good_skip.mono l r h hl
 cut:=fun l r n h hn hl=>by
  obtain ⟨f1,f2⟩:=good_skip.cut l r n h hn hl
  refine ⟨fun h3=>?_,fun h3=>f2 h3⟩
  have h4 : (rskip l r).2.a<=n:=h3
  rw [rpart_two,rpart_two,f1 h3,List.drop_take,List.take_take,Nat.min_eq_left (by omega)]
open Classical in
theorem rclk_eq : rclk = mapR rpart (fun t=>if Dec t then rdTo t (hd t) else []) (fun t=>!decide (Dec t)):=by
 funext l r
 unfold rclk mapR
 by_cases h : Dec (rpart l r).1
 ·rw [if_pos h];simp [h]
 ·rw [if_neg h];simp [h]
theorem good_clk : Good rclk:=by rw [rclk_eq];exact good_part.map _ _
theorem rdot_eq : rdot = mapR rclk (fun c=>if c.length ≠ 1 then (0,0) else c.getD 0 (0,0)) (fun c=>decide (c.length ≠ 1)):=by
 funext l r
 unfold rdot mapR
 by_cases h : (rclk l r).1.length ≠ 1
 ·rw [if_pos h];simp [h]
 ·rw [if_neg h]
  have h1 : (rclk l r).1.length = 1:=by omega
  simp [h1]
theorem good_dot : Good rdot:=by rw [rdot_eq];exact good_clk.map _ _
theorem rmut_eq (gone : Bool) : (fun l r=>rmut l r gone) = bindR rdot (fun d=>bindR rclk (fun c=>bindR rwords (fun k=>mapR rwords (fun v=>(⟨gone,d.1,d.2,ba k,c,ba v⟩ : Mt)) (fun _=>false)))):=by
 funext l r
 show (_,_) = (_,_)
 simp
theorem good_mut (gone : Bool) : Good (fun l r=>rmut l r gone):=by
 rw [rmut_eq]
 exact good_dot.bind fun d=>good_clk.bind fun c=>good_words.bind fun k=>good_words.map _ _
/-! What was written is read. -/
theorem rtake_at (pre t rest : Bs) : rtake (pre ++ (t ++ rest)) ⟨pre.length,false⟩ t.length = (t,⟨pre.length + t.length,false⟩):=by
 rw [rtake_ok _ _ _ rfl (by simp)]
 simp
theorem rlen_at (pre : Bs) (b : UInt8) (rest : Bs) : rlen (pre ++ (b :: rest)) ⟨pre.length,false⟩ = (b.toNat,⟨pre.length + 1,false⟩):=by
 unfold rlen
 have:=rtake_at pre [b] rest
 simp at this
 rw [this]
 simp
theorem rwords_at (pre t rest : Bs) (ht : t.length<=255) : rwords (pre ++ (szB t ++ rest)) ⟨pre.length,false⟩ = (t,⟨pre.length + (szB t).length,false⟩):=by
 unfold rwords szB
 rw [List.cons_append,rlen_at]
 have h1 : (UInt8.ofNat t.length).toNat = t.length:=by simp [UInt8.toNat_ofNat'];omega
 rw [h1]
 have:=rtake_at (pre ++ [UInt8.ofNat t.length]) t rest
 simp at this
 rw [this]
 simp
 omega
theorem clkB_eq {c : List (Int × Int)} (h : Clk c) : clkB c = toB (encL c):=by unfold clkB encT bs;rw [if_pos h,str_enc]
theorem rpart_at (pre : Bs) (c : List (Int × Int)) (rest : Bs) (h : Clk c) : rpart (pre ++ (clkB c ++ rest)) ⟨pre.length,false⟩ = (clkB c,⟨pre.length + (clkB c).length,false⟩):=by
 have hd1:=dec_enc h
 rw [<- clkB_eq h] at hd1
 obtain ⟨h1,h2,h3⟩:=hd1
 cases ht : clkB c with
 | nil=>exact absurd ht h1
 | cons b t =>
  rw [ht] at h2
  have hb : hd (b :: t) = b.toNat:=by simp [hd]
  rw [hb] at h2
  unfold rpart
  rw [List.cons_append,rlen_at]
  have h5 : t.length = b.toNat * 9:=by simp at h2;omega
  have:=rtake_at (pre ++ [b]) t rest
  simp at this
  rw [h5] at this
  rw [this]
  simp
  constructor
  ·rw [show pre.length + 1 + b.toNat * 9 - pre.length = (b.toNat * 9) + 1 by omega,List.take_succ_cons,<- h5]
   simp
  ·omega
theorem rclk_at (pre : Bs) (c : List (Int × Int)) (rest : Bs) (h : Clk c) : rclk (pre ++ (clkB c ++ rest)) ⟨pre.length,false⟩ = (c,⟨pre.length + (clkB c).length,false⟩):=by
 have hd1:=dec_enc h
 unfold rclk
 rw [rpart_at pre c rest h]
 have hd2 : Dec (clkB c):=by rw [clkB_eq h];exact hd1
 rw [if_pos hd2]
 show (rdTo (clkB c) (hd (clkB c)),_) = _
 rw [clkB_eq h,rdTo_enc h]
theorem rdot_at (pre : Bs) (n k : Int) (rest : Bs) (h : Clk [(n,k)]) : rdot (pre ++ (clkB [(n,k)] ++ rest)) ⟨pre.length,false⟩ = ((n,k),⟨pre.length + (clkB [(n,k)]).length,false⟩):=by
 unfold rdot
 rw [rclk_at pre _ rest h]
 simp
structure Mt.OK (m : Mt) : Prop where
 dot : Clk [(m.node,m.count)]
 clk : Clk m.c
 k : m.k.size<=255
 v : m.v.size<=255
theorem ba_bs (b : ByteArray) : ba (bs b) = b:=by cases b;simp [ba,bs]
theorem bs_ba (t : Bs) : bs (ba t) = t:=by simp [ba,bs]
theorem rmut_at (pre : Bs) (m : Mt) (rest : Bs) (h : m.OK) :
  rmut (pre ++ (encB m ++ rest)) ⟨pre.length + 1,false⟩ m.del = (m,⟨pre.length + (encB m).length,false⟩):=by
 obtain ⟨h1,h2,h3,h4⟩:=h
 have e : ∀ b,pre ++ (b :: (clkB [(m.node,m.count)] ++ (clkB m.c ++ (szB (bs m.k) ++ szB (bs m.v)))) ++ rest) = (pre ++ [b]) ++ (clkB [(m.node,m.count)] ++ (clkB m.c ++ (szB (bs m.k) ++ (szB (bs m.v) ++ rest)))):=fun b=>by simp
 unfold encB rmut
 obtain ⟨b,hb⟩ : ∃ b,(if m.del = true then 2 else 1 : UInt8) = b:=⟨_,rfl⟩
 rw [hb,e]
 have l1 : (⟨pre.length + 1,false⟩ : Rr) = ⟨(pre ++ [b]).length,false⟩:=by simp
 rw [l1,rdot_at _ _ _ _ h1]
 simp only
 have e2 : (pre ++ [b]) ++ (clkB [(m.node,m.count)] ++ (clkB m.c ++ (szB (bs m.k) ++ (szB (bs m.v) ++ rest)))) = ((pre ++ [b]) ++ clkB [(m.node,m.count)]) ++ (clkB m.c ++ (szB (bs m.k) ++ (szB (bs m.v) ++ rest))):=by simp
 have l2 : (⟨(pre ++ [b]).length + (clkB [(m.node,m.count)]).length,false⟩ : Rr) = ⟨((pre ++ [b]) ++ clkB [(m.node,m.count)]).length,false⟩:=by simp;omega
 rw [e2,l2,rclk_at _ _ _ h2]
 simp only
 obtain ⟨p2,hp2⟩ : ∃ p2,(pre ++ [b]) ++ clkB [(m.node,m.count)] = p2:=⟨_,rfl⟩
 rw [hp2]
 have e3 : p2 ++ (clkB m.c ++ (szB (bs m.k) ++ (szB (bs m.v) ++ rest))) = (p2 ++ clkB m.c) ++ (szB (bs m.k) ++ (szB (bs m.v) ++ rest)):=by simp
 have l3 : (⟨p2.length + (clkB m.c).length,false⟩ : Rr) = ⟨(p2 ++ clkB m.c).length,false⟩:=by simp
 rw [e3,l3,rwords_at _ _ _ (by rw [bs_len];exact h3)]
 simp only
 obtain ⟨p3,hp3⟩ : ∃ p3,p2 ++ clkB m.c = p3:=⟨_,rfl⟩
 rw [hp3]
 have e4 : p3 ++ (szB (bs m.k) ++ (szB (bs m.v) ++ rest)) = (p3 ++ szB (bs m.k)) ++ (szB (bs m.v) ++ rest):=by simp
 have l4 : (⟨p3.length + (szB (bs m.k)).length,false⟩ : Rr) = ⟨(p3 ++ szB (bs m.k)).length,false⟩:=by simp
 rw [e4,l4,rwords_at _ _ _ (by rw [bs_len];exact h4)]
 simp only [ba_bs]
 refine Prod.ext rfl ?_
 show (⟨_,_⟩ : Rr) = ⟨_,_⟩
 rw [<- hp3,<- hp2]
 simp
 omega
end Go.Proofs.YtilkdeghknjjhaaGreatDoor
namespace Go.Proofs.YtilkdeghknjjhaaGreatDoor
open Go.RowKit M
variable {w w' : World} {g : Nat} {t : ByteArray}
def RdrAt (w : World) (g : Nat) (t : ByteArray) (r : Rr) : Prop:=w.heap[g]? = some (.cells #[.string t,.int .i64 r.a,.bool r.s] 282 (0,0))
theorem RdrAt.cell {r : Rr} (h : RdrAt w g t r) (o : Nat) : w.cell? ⟨g,o,none⟩ = #[Value.string t,.int .i64 r.a,.bool r.s][o]?:=by
 unfold RdrAt at h;simp [World.cell?,h]
theorem RdrAt.frozen {r : Rr} (h : RdrAt w g t r) (o : Nat) : w.frozen? ⟨g,o,none⟩ = false:=frozen_of_row _ _ _ _ _ h
theorem RdrAt.setA {r : Rr} (h : RdrAt w g t r) (n : Nat) : RdrAt (w.setCell ⟨g,1,none⟩ (.int .i64 n)) g t ⟨n,r.s⟩:=heap_setCell_self h 1 _
theorem RdrAt.setS {r : Rr} (h : RdrAt w g t r) (b : Bool) : RdrAt (w.setCell ⟨g,2,none⟩ (.bool b)) g t ⟨r.a,b⟩:=heap_setCell_self h 2 _
theorem RdrAt.below {r : Rr} (h : RdrAt w g t r) (b : Below w.heap.size w w') : RdrAt w' g t r:=heap_later b h
theorem RdrAt.tr {Y : Nat->Prop} {r : Rr} (h : RdrAt w g t r) (b : Tr Y w w') (hz : ¬ Y g) : RdrAt w' g t r:=b.heap h hz
def One (g : Nat) : Nat->Prop:=fun k=>k = g
theorem Tr.set1 {a : World} (h : Tr (One g) a w) (o : Nat) (u : Value) : Tr (One g) a (w.setCell ⟨g,o,none⟩ u):=h.setCell (p:=⟨g,o,none⟩) (show One g g from rfl) u
theorem wrap64_byte (b : UInt8) : wrap64 (b.toNat : Int) = b.toNat:=by
 have:=b.toNat_lt
 unfold wrap64
 omega
theorem ba_extract (t : ByteArray) (a n : Nat) : ba (((bs t).drop a).take n) = t.extract a (a + n):=by
 have h : (t.extract a (a + n)).data.toList = (t.data.toList.drop a).take n:=by
  rw [ByteArray.data_extract,Array.toList_extract]
  simp [List.extract]
 cases hh : t.extract a (a + n) with
 | mk d =>
  rw [hh] at h
  unfold ba bs
  rw [<- h]
def Fits (t : ByteArray) (r : Rr) : Prop:=t.size<=1000000000/\r.a<=t.size
theorem take_any (g : Nat) (t : ByteArray) (r : Rr) (n : Nat) (w : World) (h : RdrAt w g t r) (hf : Fits t r) (hn : n<=100000) :
  Calls Tryz.prog 248 #[.pointer (some ⟨g,0,none⟩),.int .i64 n] w fun e w'=>e = .returned (.string (ba (rtake (bs t) r n).1))/\RdrAt w' g t (rtake (bs t) r n).2/\Tr (One g) w w':=by
 obtain ⟨hf1,hf2⟩:=hf
 have c0 : w.cell? ⟨g,0,none⟩ = some (.string t):=(h.cell 0).trans rfl
 have c1 : w.cell? ⟨g,1,none⟩ = some (.int .i64 r.a):=(h.cell 1).trans rfl
 have c2 : w.cell? ⟨g,2,none⟩ = some (.bool r.s):=(h.cell 2).trans rfl
 have fz : ∀ o,w.frozen? ⟨g,o,none⟩ = false:=h.frozen
 have HZ : Hid (RdrAt w g t r):=h
 have a0 : (0 : Int)<=(r.a : Int):=by omega
 have a1 : (r.a : Int)<=(t.size : Int):=by omega
 have a2 : (t.size : Int)<=1000000000:=by omega
 have n0 : (0 : Int)<=(n : Int):=by omega
 have n1 : (n : Int)<=100000:=by omega
 clear h
 cases hs : r.s
 ·rw [hs] at c2
  by_cases hb : t.size - r.a < n
  ·have HR : Hid (rtake (bs t) r n = ([],⟨r.a,true⟩)):=rtake_short _ _ _ (.inr (by rw [bs_len];exact hb))
   have q : (t.size : Int) - (r.a : Int) < (n : Int):=by omega
   clear hs hf1 hf2 hn hb
   go_enter Tryz.func248,Tryz.ntmps248
   go_upto_region 2 with (fail)
   go_quiet (fail)
   go_wp2
   go_ret
   exact ⟨by rw [HR.out];rfl,by rw [HR.out];exact HZ.out.setS true,((Tr.refl (One g) w).drewN _).set1 _ _⟩
  ·have HR : Hid (rtake (bs t) r n = (((bs t).drop r.a).take n,⟨r.a + n,false⟩)):=rtake_ok _ _ _ hs (by rw [bs_len];omega)
   have q : ¬ (t.size : Int) - (r.a : Int) < (n : Int):=by omega
   have HS : Hid (r.s = false):=hs
   clear hs hf1 hf2 hn hb
   go_enter Tryz.func248,Tryz.ntmps248
   go_upto_region 2 with (fail)
   go_quiet (fail)
   go_upto_region 4 with (fail)
   go_quiet (fail)
   go_wp2
   go_ret
   refine ⟨by rw [HR.out,ba_extract];rfl,?_,((Tr.refl (One g) w).drewN _).set1 _ _⟩
   rw [HR.out]
   have:=HZ.out.setA (r.a + n)
   rw [HS.out] at this
   exact this
 ·have HR : Hid (rtake (bs t) r n = ([],⟨r.a,true⟩)):=rtake_short _ _ _ (.inl hs)
  rw [hs] at c2
  clear hs hf1 hf2 hn
  go_enter Tryz.func248,Tryz.ntmps248
  go_upto_region 2 with (fail)
  go_quiet (fail)
  go_wp2
  go_ret
  exact ⟨by rw [HR.out];rfl,by rw [HR.out];exact HZ.out.setS true,((Tr.refl (One g) w).drewN _).set1 _ _⟩
theorem rtake_fits {r : Rr} (h : Fits t r) (n : Nat) : Fits t (rtake (bs t) r n).2:=by
 refine ⟨h.1,?_⟩
 unfold rtake
 split
 ·exact h.2
 ·rename_i hc
  show r.a + n<=t.size
  have:=h.2
  rw [bs_len] at hc
  simp at hc
  omega
theorem rlen_fits {r : Rr} (h : Fits t r) : Fits t (rlen (bs t) r).2:=rtake_fits h 1
theorem rlen_le (l : Bs) (r : Rr) : (rlen l r).1<=255:=by
 unfold rlen
 have:=((rtake l r 1).1.getD 0 0).toNat_lt
 simp only
 omega
theorem length_any (g : Nat) (t : ByteArray) (r : Rr) (w : World) (h : RdrAt w g t r) (hf : Fits t r) :
  Calls Tryz.prog 225 #[.pointer (some ⟨g,0,none⟩)] w fun e w'=>e = .returned (.int .i64 (rlen (bs t) r).1)/\RdrAt w' g t (rlen (bs t) r).2/\Tr (One g) w w':=by
 have HT:=take_any g t r 1 w h hf (by omega)
 have HT' : Hid (Calls Tryz.prog 248 #[.pointer (some ⟨g,0,none⟩),.int .i64 1] w fun e w'=>e = .returned (.string (ba (rtake (bs t) r 1).1))/\RdrAt w' g t (rtake (bs t) r 1).2/\Tr (One g) w w'):=HT
 have HE : Hid ((rtake (bs t) r 1).1 = []\/∃ b,(rtake (bs t) r 1).1 = [b]):=by
  show _\/_
  unfold rtake
  split
  ·exact .inl rfl
  ·show ((bs t).drop r.a).take 1 = []\/∃ b,((bs t).drop r.a).take 1 = [b]
   cases (bs t).drop r.a with
   | nil=>exact .inl rfl
   | cons b x=>exact .inr ⟨b,rfl⟩
 have HL : Hid (rlen (bs t) r = (((rtake (bs t) r 1).1.getD 0 0).toNat,(rtake (bs t) r 1).2)):=rfl
 obtain ⟨q,hq⟩ : ∃ q,rtake (bs t) r 1 = q:=⟨_,rfl⟩
 rw [hq] at HT' HE HL
 clear HT h hf hq
 go_enter Tryz.func225,Tryz.ntmps225
 go_wp2_with fail
 refine HT'.out.mono ?_
 rintro e w1 ⟨rfl,h1,t1⟩
 rcases HE.out with he | ⟨b,he⟩
 ·have HL2 : Hid ((rlen (bs t) r).1 = 0/\(rlen (bs t) r).2 = q.2):=by rw [HL.out,he];exact ⟨rfl,rfl⟩
  rw [he]
  have hb0 : ba [] = ByteArray.empty:=rfl
  rw [hb0]
  clear he
  go_wp2
  go_ret
  exact ⟨by rw [HL2.out.1];rfl,by rw [HL2.out.2];exact h1,t1⟩
 ·have HL2 : Hid ((rlen (bs t) r).1 = b.toNat/\(rlen (bs t) r).2 = q.2):=by rw [HL.out,he];exact ⟨rfl,rfl⟩
  rw [he]
  clear he
  have e1 : ((ba [b]).toList == ([] : List UInt8)) = false:=by rw [Lib.toList_data];simp [ba]
  have e2 : 0 < (ba [b]).size:=Nat.zero_lt_one
  go_wp2
  go_ret
  exact ⟨by rw [HL2.out.1];exact congrArg (fun q=>Ending.returned (.int .i64 q)) (wrap64_byte b),by rw [HL2.out.2];exact h1,t1⟩
end Go.Proofs.YtilkdeghknjjhaaGreatDoor
