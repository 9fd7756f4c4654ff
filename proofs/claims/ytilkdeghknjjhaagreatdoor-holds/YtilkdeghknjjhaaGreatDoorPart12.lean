/- A part of the proof. -/
import Derived.Test.YtilkdeghknjjhaaGreatDoorPart08
import Derived.Test.YtilkdeghknjjhaaGreatDoorPart07
set_option maxRecDepth 20000
set_option maxHeartbeats 3200000
set_option linter.unusedVariables false
namespace Go.Proofs.YtilkdeghknjjhaaGreatDoor
open Go.RowKit M
end Go.Proofs.YtilkdeghknjjhaaGreatDoor
namespace Go.Proofs.YtilkdeghknjjhaaGreatDoor
open Go.RowKit M
end Go.Proofs.YtilkdeghknjjhaaGreatDoor
namespace Go.Proofs.YtilkdeghknjjhaaGreatDoor
open Go.RowKit M
theorem grown_cell {w a : World} {r : Option Nat} {p : Addr} {u : Value} (h : w.grownBy a r) (hp : p.block < w.heap.size) (hr : some p.block ≠ r) (hu : w.cell? p = some u) : a.cell? p = some u :=
 (World.cell?_of_block (h.block p.block hp hr)).trans hu
end Go.Proofs.YtilkdeghknjjhaaGreatDoor
namespace Go.Proofs.YtilkdeghknjjhaaGreatDoor
open Go.RowKit M
def DecEnd (w : World) (s : ByteArray) (e : Ending) (w' : World) : Prop :=
 (¬ Dec s.data.toList/\e = .returned (.tuple #[.slice none 0 0,.int .i64 2])) \/
 (Dec s.data.toList/\∃ v,e = .returned (.tuple #[v,.int .i64 0])/\w'.ownsRow w.heap.size 183 2 v (hd s.data.toList) (cellsE (rdTo s.data.toList (hd s.data.toList))))
theorem wrap_step (V b : Nat) : wrap64 (wrap64 (256 * wrap64 (V : Int)) + (b : Int)) = wrap64 ((V * 256 + b : Nat) : Int):=by
 unfold wrap64;omega
theorem take_more (s : ByteArray) (p m : Nat) (h : p + m < s.size) : (s.data.toList.drop p).take (m + 1) = (s.data.toList.drop p).take m ++ [s[p + m]]:=by
 rw [List.take_succ_eq_append_getElem (by rw [List.length_drop,toList_size];omega)]
 congr 1
 rw [List.getElem_drop]
 rfl
theorem dec_of {s : ByteArray} {k : Nat} (hk : Clk (rdTo s.data.toList k)) (he : strOfNums (encL (rdTo s.data.toList k)) = s) : Dec s.data.toList/\k = hd s.data.toList:=by
 have h1:=str_enc (rdTo s.data.toList k)
 rw [he] at h1
 have h2:=dec_enc hk
 rw [<- h1] at h2
 refine ⟨h2,?_⟩
 have h3:=hd_enc hk
 rw [<- h1,rdTo_len] at h3
 exact h3.symm
set_option maxRecDepth 40000 in
theorem refDecode_any (s : ByteArray) (w : World) (hs : s.size<=maxLen) :
  Calls Tryz.prog 215 #[.string s] w fun e w'=>DecEnd w s e w'/\Below w.heap.size w w':=by
 obtain ⟨i0,hi,hz0,hz1,hz2⟩:=info_parts Tryz.info183
 unfold maxLen at hs
 have hs' : (s.size : Int)<=9223372036854775807:=by omega
 clear hs
 go_enter Tryz.func215,Tryz.ntmps215
 go_wp2
 go_loopw [4,5,6,7] (fun c a _ _ wr=>∃ k p : Nat,k<=9/\Hid (p = 1 + 9 * k)/\p<=82/\Hid (0 < k->p<=s.size)/\a = .int .i64 p/\wr.ownsRow w.heap.size 183 2 c k (cellsE (rdTo s.data.toList k))/\Below w.heap.size w wr)
  (fun _ a _ _ _=>200 - (intOf a).toNat)
 case atStart=>exact ⟨0,1,by omega,rfl,by omega,fun h=>by omega,rfl,World.ownsRow_nil _ _ _ _,Below.refl _ _⟩
 case round =>
  obtain ⟨k,p,hk,hp,hp82,hps,rfl,ho,hb⟩:=hrel
  have hsz:=hb.size
  have hvl : ∃ a cap,u4 = .slice a k cap:=by
   rcases ho.2 with ⟨h1,h2⟩ | ⟨g,cap,cur,h1,_⟩
   ·exact ⟨none,0,by rw [h1,h2]⟩
   ·exact ⟨_,_,h1⟩
  obtain ⟨a4,c4,rfl⟩:=hvl
  by_cases hlt : p + 9<=s.size/\k < 9
  ·obtain ⟨q1,q2⟩:=hlt
   have q1' : (p : Int) + 9<=(s.size : Int):=by omega
   have q2' : (k : Int) < 9:=by omega
   go_wp2_with fail
   obtain ⟨wo,rfl⟩ : ∃ wo : World,wo = wr:=⟨_,rfl⟩
   go_loop [6,7] (fun n i=>∃ (m : Nat) (q : Int),m<=8/\i = .int .i64 ((m + 1 : Nat) : Int)/\n = .int .i64 q/\Hid (q = wrap64 (val ((s.data.toList.drop (p + 1)).take m)))) (fun _ i=>20 - (intOf i).toNat)
   case atStart=>exact ⟨0,0,by omega,rfl,rfl,by show _ = _;simp [val,wrap64]⟩
   case round =>
    obtain ⟨m,q,hm,rfl,rfl,hq⟩:=hrel
    by_cases hm8 : m < 8
    ·have hbd : (s[p + (m + 1)].toNat : Int) < 256:=by have:=s[p + (m + 1)].toNat_lt;omega
     go_wp2
     go_round
     case rel =>
      refine ⟨m + 1,_,by omega,by go_num,rfl,?_⟩
      show _ = _
      rw [take_more s (p + 1) m (by omega),val_snoc,hq.out,wrap_step]
      congr 3
      simp only [Nat.add_assoc,Nat.add_comm 1 m]
     case measure=>simp [intOf];omega
    ·obtain rfl : m = 8:=by omega
     have hbp : (s[p].toNat : Int) < 256:=by have:=s[p].toNat_lt;omega
     have HE : Hid (rdE s.data.toList k = ((s[p].toNat : Int),q)):=by
      show _ = _
      have e1 : 1 + 9 * k = p:=hp.out.symm
      have e2 : 2 + 9 * k = p + 1:=by omega
      unfold rdE
      rw [e1,e2,getD_byte s p (by omega),<- hq.out]
     go_wp2_with (first
      | (at_builtin;refine wpList_append_own _ rfl _ _ 109 rfl w.heap.size 183 i0 (.agg #[.int .i64 0,.int .i64 0]) 2 16 Tryz.underlying109 hi hz0 hz1 hz2 rfl (by decide) _ _ _ rfl (ho.alloc _) ⟨wo.heap.size,0,none⟩ 1 1 [.int .i64 s[p].toNat,.int .i64 q] rfl rfl ?c1 ?c2 ?c3 ?c4 ?c5 ?_))
     case c1=>exact cell_two_new _ _ _ _
     case c2=>intro u hu;simp at hu;rcases hu with rfl | rfl <;> rfl
     case c3=>unfold maxLen;omega
     case c4=>omega
     case c5=>simp;omega
     ·intro v' w2 hown' hgrow _
      have hb3 : Below w.heap.size w w2:=(hb.alloc (by omega) _).grown hgrow (by simp;omega) (fun q hq=>(ho.lt q hq).1)
      go_wp2
      go_roundw
      case rel=>exact ⟨k + 1,p + 9,by omega,by show _ = _;have:=hp.out;omega,by have:=hp.out;omega,fun _=>by omega,by go_num,by rw [rdTo,cellsE_snoc,HE.out];exact hown',hb3⟩
      case measure=>simp [intOf];omega
  ·by_cases q1 : p + 9<=s.size
   ·have q1' : (p : Int) + 9<=(s.size : Int):=by omega
    have hk9 : k = 9:=by omega
    have q2' : decide ((k : Int) < 9) = false:=by simp;omega
    have HK9 : Hid (k = 9):=hk9
    clear hk9
    have ho':=ho
    have hrd : Rd wr (.slice a4 k c4) (rdTo s.data.toList k):=Rd.own ho (rdTo_len _ _).symm
    by_cases hck : Clk (rdTo s.data.toList k)
    ·go_wp2_with fail
     refine (refEncode_yes _ _ wr hrd hck).mono ?_
     rintro e w2 ⟨rfl,hb2⟩
     have HO : Hid (w2.ownsRow w.heap.size 183 2 (.slice a4 k c4) k (cellsE (rdTo s.data.toList k))):=own_below ho hb2
     have hb3:=hb.trans (hb2.mono hsz)
     have HC : Hid (Clk (rdTo s.data.toList k)):=hck
     clear ho ho' hrd hck hb2
     by_cases heq : strOfNums (encL (rdTo s.data.toList k)) = s
     ·have HD:=dec_of HC.out heq
      have HDD : Hid (Dec s.data.toList/\k = hd s.data.toList):=HD
      rw [heq]
      clear heq HD
      go_wp2
      go_ret2
      refine ⟨.inr ⟨HDD.out.1,_,rfl,?_⟩,hb3⟩
      rw [<- HDD.out.2]
      exact HO.out
     ·have HND : Hid (¬ Dec s.data.toList):=fun d=>heq (by
       have h8 : hd s.data.toList<=8:=by have:=d.2.2.1;rw [rdTo_len] at this;exact this
       have h1:=d.2.1
       rw [toList_size] at h1
       have h2:=hp.out
       have h3 : k = hd s.data.toList:=by
        have:=hps.out
        have:=HK9.out;omega
       rw [h3]
       exact enc_dec s d)
      obtain ⟨t,ht⟩ : ∃ t,strOfNums (encL (rdTo s.data.toList k)) = t:=⟨_,rfl⟩
      have hbeq : (t.toList == s.toList) = false:=by
       rw [<- ht,Lib.toList_data,Lib.toList_data,beq_eq_false_iff_ne]
       intro h;exact heq (WideShapes.bytes_inj h)
      rw [ht]
      clear ht heq
      go_wp2
      go_ret2
      exact ⟨.inl ⟨HND.out,rfl⟩,hb3⟩
    ·go_wp2_with fail
     refine (refEncode_no _ _ wr hrd hck).mono ?_
     rintro e w2 ⟨rfl,hb2⟩
     have HND : Hid (¬ Dec s.data.toList):=fun d=>hck (by
       have h8 : hd s.data.toList<=8:=by have:=d.2.2.1;rw [rdTo_len] at this;exact this
       have h1:=d.2.1
       rw [toList_size] at h1
       have h2:=hp.out
       have h3 : k = hd s.data.toList:=by
        have:=hps.out
        have:=HK9.out;omega
       rw [h3]
       exact d.2.2)
     have hb3:=hb.trans (hb2.mono hsz)
     clear ho ho' hrd hck hb2
     go_wp2
     go_ret2
     exact ⟨.inl ⟨HND.out,rfl⟩,hb3⟩
   ·have q1' : decide ((p : Int) + 9<=(s.size : Int)) = false:=by simp;omega
    have ho':=ho
    have hrd : Rd wr (.slice a4 k c4) (rdTo s.data.toList k):=Rd.own ho (rdTo_len _ _).symm
    by_cases hck : Clk (rdTo s.data.toList k)
    ·go_wp2_with fail
     refine (refEncode_yes _ _ wr hrd hck).mono ?_
     rintro e w2 ⟨rfl,hb2⟩
     have HO : Hid (w2.ownsRow w.heap.size 183 2 (.slice a4 k c4) k (cellsE (rdTo s.data.toList k))):=own_below ho hb2
     have hb3:=hb.trans (hb2.mono hsz)
     have HC : Hid (Clk (rdTo s.data.toList k)):=hck
     clear ho ho' hrd hck hb2
     by_cases heq : strOfNums (encL (rdTo s.data.toList k)) = s
     ·have HD:=dec_of HC.out heq
      have HDD : Hid (Dec s.data.toList/\k = hd s.data.toList):=HD
      rw [heq]
      clear heq HD
      go_wp2
      go_ret2
      refine ⟨.inr ⟨HDD.out.1,_,rfl,?_⟩,hb3⟩
      rw [<- HDD.out.2]
      exact HO.out
     ·have HND : Hid (¬ Dec s.data.toList):=fun d=>heq (by
       have h8 : hd s.data.toList<=8:=by have:=d.2.2.1;rw [rdTo_len] at this;exact this
       have h1:=d.2.1
       rw [toList_size] at h1
       have h2:=hp.out
       have h3 : k = hd s.data.toList:=by
        have:=hps.out
        by_cases h0 : 0 < k
        ·have:=this h0;omega
        ·omega
       rw [h3]
       exact enc_dec s d)
      obtain ⟨t,ht⟩ : ∃ t,strOfNums (encL (rdTo s.data.toList k)) = t:=⟨_,rfl⟩
      have hbeq : (t.toList == s.toList) = false:=by
       rw [<- ht,Lib.toList_data,Lib.toList_data,beq_eq_false_iff_ne]
       intro h;exact heq (WideShapes.bytes_inj h)
      rw [ht]
      clear ht heq
      go_wp2
      go_ret2
      exact ⟨.inl ⟨HND.out,rfl⟩,hb3⟩
    ·go_wp2_with fail
     refine (refEncode_no _ _ wr hrd hck).mono ?_
     rintro e w2 ⟨rfl,hb2⟩
     have HND : Hid (¬ Dec s.data.toList):=fun d=>hck (by
       have h8 : hd s.data.toList<=8:=by have:=d.2.2.1;rw [rdTo_len] at this;exact this
       have h1:=d.2.1
       rw [toList_size] at h1
       have h2:=hp.out
       have h3 : k = hd s.data.toList:=by
        have:=hps.out
        by_cases h0 : 0 < k
        ·have:=this h0;omega
        ·omega
       rw [h3]
       exact d.2.2)
     have hb3:=hb.trans (hb2.mono hsz)
     clear ho ho' hrd hck hb2
     go_wp2
     go_ret2
     exact ⟨.inl ⟨HND.out,rfl⟩,hb3⟩
end Go.Proofs.YtilkdeghknjjhaaGreatDoor
