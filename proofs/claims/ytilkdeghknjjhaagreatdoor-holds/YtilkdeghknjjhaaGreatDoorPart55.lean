/- A part of the proof. -/
import Derived.Test.YtilkdeghknjjhaaGreatDoorCards
import Derived.Test.YtilkdeghknjjhaaGreatDoorTie
import Derived.Test.YtilkdeghknjjhaaGreatDoorPart54
import Derived.Conc.Holds
import Derived.Deep.DeepHandedRow
import Derived.Deep.DeepWitnessRowRef
import Derived.Deep.Slices
import Derived.Lib.LaidIn
import Derived.Lib.LaidTab
import Derived.Stop.LaidErr
import Derived.ProofKit
import Derived.OpenShut
import Derived.SizedLaws
import Derived.ChangeSlices
set_option maxRecDepth 20000
set_option maxHeartbeats 3200000
set_option linter.unusedVariables false
namespace Go.Proofs.YtilkdeghknjjhaaGreatDoor.PlayRow
open Go.ChangeShapes Go.WideShapes Go.ChangeAt Go.RowKit
variable {W : World} {v : Value} {fuel : Nat}
theorem own : ownKnob Tryz.prog.godebug = none:=by kernel_rfl
theorem laidOut : laidOutB Tryz.prog = true:=by kernel_rfl
theorem cells3 : Tryz.prog.cellsOf 3 = 1:=by kernel_rfl
theorem cells9 : Tryz.prog.cellsOf 9 = 1:=by kernel_rfl
theorem cellsErr : Tryz.prog.cellsOf 341 = 1:=by kernel_rfl
theorem star : "*" ++ "errors.errorString" = "*errors.errorString" := by decide
theorem rowErr (u : TypeId) (h : Tryz.prog.typeName? 3 u = some "*errors.errorString") : u = 339 :=
 typeName_ptr_named (nm := "errors.errorString") (by rw [star]; kernel_rfl) (by kernel_rfl) (by decide) u (by rw [star]; exact h)
theorem leaving_of_handed {a : Assume} {C : Checked} {os : Os} {f : FuncId} {r : Reach} {Pre : World->Array Value->Prop} {Post : World->Array Value->Value->World->Prop} (h : ReturnsInHanded a C os f r Pre Post) : ReturnsInLeavingWide a C os f r Pre Post:=fun enter=>by
 obtain ⟨h1,h2,h3,h4,h5⟩:=h enter
 refine ⟨h1,h2,h3,h4,fun w tape i hf=>?_⟩
 obtain ⟨n,v,w',e1,e2,e3,e4,⟨j,last,k1,k2,⟨q1,q2⟩,k4,k5⟩,e6⟩:=h5 w tape i hf
 refine ⟨n,v,w',e1,e2,e3,e4,⟨j,last,k1,k2,k4,⟨fun g hg=>⟨0,?_⟩,q2⟩,k5⟩,e6⟩
 exact eq_of_beq (List.all_eq_true.1 q1 g hg)
theorem vars_of (h : laidMetH Tryz.prog Rows.doesUptoRow.laid W) : Vars W:=by
 have h0 : laidMet Tryz.prog Rows.doesUptoRow.laid W:=h
 have h1 : laidMet Tryz.prog [("internal/strconv.uint64pow10", Rows.laid_internal_strconv_uint64pow10), ("strconv.ErrRange", Rows.laid_strconv_ErrRange), ("strconv.ErrSyntax", Rows.laid_strconv_ErrSyntax)] W := h0.tail.tail
 obtain ⟨a4,t4,hv4,_⟩:=laid_sentinel (g:=4) h1.tail (by kernel_rfl) (by kernel_rfl) Tryz.underlying258 rowErr Tryz.underlying339 Tryz.underlying341 rfl rfl Tryz.underlying9 cellsErr cells9
 obtain ⟨a3,t3,hv3,_⟩:=laid_sentinel (g:=3) h1.tail.tail (by kernel_rfl) (by kernel_rfl) Tryz.underlying258 rowErr Tryz.underlying339 Tryz.underlying341 rfl rfl Tryz.underlying9 cellsErr cells9
 refine ⟨Lib.tabIs_of_head (g:=0) gtab (by kernel_rfl) Tryz.underlying270 Tryz.underlying153 (by kernel_rfl) (by kernel_rfl) h1,⟨_,(World.var?_cell (by kernel_rfl) hv3 0).trans rfl,.inr ⟨_,_,rfl⟩⟩,⟨_,(World.var?_cell (by kernel_rfl) hv4 0).trans rfl,.inr ⟨_,_,rfl⟩⟩⟩
theorem cells4 : Tryz.prog.cellsOf 4 = 1:=by kernel_rfl
theorem cellsN : Tryz.prog.cellsOf 42 = 1:=by kernel_rfl
theorem cellsOp : Tryz.prog.cellsOf 77 = 9:=by kernel_rfl
theorem cellsOpt : Tryz.prog.cellsOf 23 = 3:=by kernel_rfl
theorem len3 {α : Type} {l : List α} (h : l.length = 3) : ∃ a b c,l = [a,b,c]:=by
 match l,h with
 | [a,b,c],_=>exact ⟨a,b,c,rfl⟩
theorem len9 {α : Type} {l : List α} (h : l.length = 9) : ∃ a b c d e f g i j,l = [a,b,c,d,e,f,g,i,j]:=by
 match l,h with
 | [a,b,c,d,e,f,g,i,j],_=>exact ⟨a,b,c,d,e,f,g,i,j,rfl⟩
theorem cell_lt {w : World} {b o : Nat} (h : w.cell? ⟨b,o,none⟩ = some v) : b < w.heap.size:=by
 by_cases hlt : b < w.heap.size
 ·exact hlt
 ·have hn : w.heap[b]? = none:=Array.getElem?_eq_none (Nat.le_of_not_lt hlt)
  simp [World.cell?,hn] at h
theorem bulk_lits {H : Type} {k : IntKind} : ∀ zs : List Int,Rows.uptoBulkAll (lits (H:=H) k zs) = zs.length
 | []=>by simp [lits,Rows.uptoBulkAll]
 | z :: zs=>by
  have:=bulk_lits (H:=H) (k:=k) zs
  simp only [lits,List.map_cons,Rows.uptoBulkAll,Rows.uptoBulk,List.length_cons] at this ⊢
  omega
theorem bulk_mem {H : Type} {x : DataW H} : ∀ {l : List (DataW H)},x ∈ l->Rows.uptoBulk x<=Rows.uptoBulkAll l
 | y :: l,h=>by
  rcases List.mem_cons.1 h with rfl | h
  ·simp only [Rows.uptoBulkAll];omega
  ·have:=bulk_mem h
   simp only [Rows.uptoBulkAll];omega
theorem bulk_ten {H : Type} : ∀ {l : List (DataW H)},(∀ x ∈ l,10<=Rows.uptoBulk x)->10 * l.length<=Rows.uptoBulkAll l
 | [],_=>by simp
 | y :: l,h=>by
  have h1:=h y (by simp)
  have h2:=bulk_ten (l:=l) fun x hx=>h x (by simp [hx])
  simp only [Rows.uptoBulkAll,List.length_cons];omega
theorem open_opt {H : Type} {enc : TypeId × Value->H} {d : DataW H} {ps : List MemPlace} (h : DataW.Trod enc Tryz.prog W 0 (fun _=>true) true 23 v d ps) :
  ∃ a b c : Int,v = .agg #[.int .i64 a,.int .i64 b,.int .i64 c]/\R64 a/\R64 b/\R64 c:=by
 obtain ⟨fuel,hf⟩:=h
 obtain ⟨xs,m,_,hx,hl,hlen,hg⟩:=DataW.trod_struct Tryz.underlying23 hf
 rw [cellsOpt] at hl
 obtain ⟨c0,c1,c2,hc⟩:=len3 hl
 obtain ⟨y0,y1,y2,rfl⟩:=len3 (l:=xs) hlen
 rw [hc] at hg
 have e0 : DataW.trod enc Tryz.prog W 0 (fun _=>true) true m 3 [c0] = some y0:=by
  have h : DataW.trod enc Tryz.prog W 0 (fun _=>true) true m 3 (List.take (Tryz.prog.cellsOf 3) (List.drop 0 [c0,c1,c2])) = [y0,y1,y2][0]?:=hg 0 _ rfl
  rw [cells3] at h;exact h
 have e1 : DataW.trod enc Tryz.prog W 0 (fun _=>true) true m 3 [c1] = some y1:=by
  have h : DataW.trod enc Tryz.prog W 0 (fun _=>true) true m 3 (List.take (Tryz.prog.cellsOf 3) (List.drop 1 [c0,c1,c2])) = [y0,y1,y2][1]?:=hg 1 _ rfl
  rw [cells3] at h;exact h
 have e2 : DataW.trod enc Tryz.prog W 0 (fun _=>true) true m 3 [c2] = some y2:=by
  have h : DataW.trod enc Tryz.prog W 0 (fun _=>true) true m 3 (List.take (Tryz.prog.cellsOf 3) (List.drop 2 [c0,c1,c2])) = [y0,y1,y2][2]?:=hg 2 _ rfl
  rw [cells3] at h;exact h
 obtain ⟨n0,h0,_,w0⟩:=DataW.trod_int (x:=y0) Tryz.underlying3 e0
 obtain ⟨n1,h1,_,w1⟩:=DataW.trod_int (x:=y1) Tryz.underlying3 e1
 obtain ⟨n2,h2,_,w2⟩:=DataW.trod_int (x:=y2) Tryz.underlying3 e2
 injection h0 with h0;injection h1 with h1;injection h2 with h2
 have h0 : c0 = _:=h0
 have h1 : c1 = _:=h1
 have h2 : c2 = _:=h2
 subst h0 h1 h2
 refine ⟨n0,n1,n2,?_,bounds_i64 w0,bounds_i64 w1,bounds_i64 w2⟩
 cases v with
 | agg arr =>
  have hc : arr.toList = _:=hc
  rw [<- Array.toArray_toList (xs:=arr),hc]
 | _=>simp [Value.cells] at hc
theorem open_op {H : Type} {enc : TypeId × Value->H} {cs : List Value} {x : DataW H × List MemPlace} (hf : DataW.trod enc Tryz.prog W 0 (fun _=>true) true fuel 77 cs = some x) :
  ∃ o : OpV,cs = o.row.toList/\o.k.size + o.v.size + o.c.size + 10<=Rows.uptoBulk x.1/\R64 o.A/\∃ keep,RdI W o.n keep/\(0 < keep.length->InZ (fun z=>z < W.heap.size) o.n)/\In64 keep/\keep.length<=Rows.uptoBulk x.1:=by
 obtain ⟨xs,m,_,hx,hl,hlen,hg⟩:=DataW.trod_struct Tryz.underlying77 hf
 rw [cellsOp] at hl
 obtain ⟨c0,c1,c2,c3,c4,c5,c6,c7,c8,rfl⟩:=len9 hl
 obtain ⟨y0,y1,y2,y3,y4,y5,y6,y7,y8,rfl⟩:=len9 (l:=xs) hlen
 have e0 : DataW.trod enc Tryz.prog W 0 (fun _=>true) true m 3 [c0] = some y0:=by
  have h : DataW.trod enc Tryz.prog W 0 (fun _=>true) true m 3 (List.take (Tryz.prog.cellsOf 3) (List.drop 0 [c0,c1,c2,c3,c4,c5,c6,c7,c8])) = [y0,y1,y2,y3,y4,y5,y6,y7,y8][0]?:=hg 0 _ rfl
  rw [cells3] at h;exact h
 have e1 : DataW.trod enc Tryz.prog W 0 (fun _=>true) true m 4 [c1] = some y1:=by
  have h : DataW.trod enc Tryz.prog W 0 (fun _=>true) true m 4 (List.take (Tryz.prog.cellsOf 4) (List.drop 1 [c0,c1,c2,c3,c4,c5,c6,c7,c8])) = [y0,y1,y2,y3,y4,y5,y6,y7,y8][1]?:=hg 1 _ rfl
  rw [cells4] at h;exact h
 have e2 : DataW.trod enc Tryz.prog W 0 (fun _=>true) true m 9 [c2] = some y2:=by
  have h : DataW.trod enc Tryz.prog W 0 (fun _=>true) true m 9 (List.take (Tryz.prog.cellsOf 9) (List.drop 2 [c0,c1,c2,c3,c4,c5,c6,c7,c8])) = [y0,y1,y2,y3,y4,y5,y6,y7,y8][2]?:=hg 2 _ rfl
  rw [cells9] at h;exact h
 have e3 : DataW.trod enc Tryz.prog W 0 (fun _=>true) true m 9 [c3] = some y3:=by
  have h : DataW.trod enc Tryz.prog W 0 (fun _=>true) true m 9 (List.take (Tryz.prog.cellsOf 9) (List.drop 3 [c0,c1,c2,c3,c4,c5,c6,c7,c8])) = [y0,y1,y2,y3,y4,y5,y6,y7,y8][3]?:=hg 3 _ rfl
  rw [cells9] at h;exact h
 have e4 : DataW.trod enc Tryz.prog W 0 (fun _=>true) true m 9 [c4] = some y4:=by
  have h : DataW.trod enc Tryz.prog W 0 (fun _=>true) true m 9 (List.take (Tryz.prog.cellsOf 9) (List.drop 4 [c0,c1,c2,c3,c4,c5,c6,c7,c8])) = [y0,y1,y2,y3,y4,y5,y6,y7,y8][4]?:=hg 4 _ rfl
  rw [cells9] at h;exact h
 have e5 : DataW.trod enc Tryz.prog W 0 (fun _=>true) true m 4 [c5] = some y5:=by
  have h : DataW.trod enc Tryz.prog W 0 (fun _=>true) true m 4 (List.take (Tryz.prog.cellsOf 4) (List.drop 5 [c0,c1,c2,c3,c4,c5,c6,c7,c8])) = [y0,y1,y2,y3,y4,y5,y6,y7,y8][5]?:=hg 5 _ rfl
  rw [cells4] at h;exact h
 have e6 : DataW.trod enc Tryz.prog W 0 (fun _=>true) true m 3 [c6] = some y6:=by
  have h : DataW.trod enc Tryz.prog W 0 (fun _=>true) true m 3 (List.take (Tryz.prog.cellsOf 3) (List.drop 6 [c0,c1,c2,c3,c4,c5,c6,c7,c8])) = [y0,y1,y2,y3,y4,y5,y6,y7,y8][6]?:=hg 6 _ rfl
  rw [cells3] at h;exact h
 have e7 : DataW.trod enc Tryz.prog W 0 (fun _=>true) true m 3 [c7] = some y7:=by
  have h : DataW.trod enc Tryz.prog W 0 (fun _=>true) true m 3 (List.take (Tryz.prog.cellsOf 3) (List.drop 7 [c0,c1,c2,c3,c4,c5,c6,c7,c8])) = [y0,y1,y2,y3,y4,y5,y6,y7,y8][7]?:=hg 7 _ rfl
  rw [cells3] at h;exact h
 have e8 : DataW.trod enc Tryz.prog W 0 (fun _=>true) true m 42 [c8] = some y8:=by
  have h : DataW.trod enc Tryz.prog W 0 (fun _=>true) true m 42 (List.take (Tryz.prog.cellsOf 42) (List.drop 8 [c0,c1,c2,c3,c4,c5,c6,c7,c8])) = [y0,y1,y2,y3,y4,y5,y6,y7,y8][8]?:=hg 8 _ rfl
  rw [cellsN] at h;exact h
 obtain ⟨n0,h0,x0,w0⟩:=DataW.trod_int (x:=y0) Tryz.underlying3 e0
 obtain ⟨n1,h1,x1⟩:=DataW.trod_bool (x:=y1) Tryz.underlying4 e1
 obtain ⟨n2,h2,x2,w2⟩:=DataW.trod_string (x:=y2) Tryz.underlying9 e2
 obtain ⟨n3,h3,x3,w3⟩:=DataW.trod_string (x:=y3) Tryz.underlying9 e3
 obtain ⟨n4,h4,x4,w4⟩:=DataW.trod_string (x:=y4) Tryz.underlying9 e4
 obtain ⟨n5,h5,x5⟩:=DataW.trod_bool (x:=y5) Tryz.underlying4 e5
 obtain ⟨n6,h6,x6,w6⟩:=DataW.trod_int (x:=y6) Tryz.underlying3 e6
 obtain ⟨n7,h7,x7,w7⟩:=DataW.trod_int (x:=y7) Tryz.underlying3 e7
 injection h0 with h0;injection h1 with h1;injection h2 with h2;injection h3 with h3;injection h4 with h4;injection h5 with h5;injection h6 with h6;injection h7 with h7
 have h0 : c0 = _:=h0
 have h1 : c1 = _:=h1
 have h2 : c2 = _:=h2
 have h3 : c3 = _:=h3
 have h4 : c4 = _:=h4
 have h5 : c5 = _:=h5
 have h6 : c6 = _:=h6
 have h7 : c7 = _:=h7
 subst h0 h1 h2 h3 h4 h5 h6 h7 x0 x1 x2 x3 x4 x5 x6 x7
 have hb : n2.size + n3.size + n4.size + 9 + Rows.uptoBulk y8.1<=Rows.uptoBulk x.1:=by
  rw [hx]
  have s2 : n2.data.toList.length = n2.size:=by simp
  have s3 : n3.data.toList.length = n3.size:=by simp
  have s4 : n4.data.toList.length = n4.size:=by simp
  simp only [List.map_cons,List.map_nil,Rows.uptoBulk,Rows.uptoBulkAll,s2,s3,s4]
  omega
 refine ⟨⟨n0,n1,n2,n3,n4,n5,n6,n7,c8⟩,rfl,?_⟩
 rcases open_ints (x:=y8) Tryz.underlying42 Tryz.underlying3 cells3 e8 with ⟨hcs,hy8⟩ | ⟨a,len',cap',zs,hcs,hb',hl',hm,hz,hy8,hc,hw⟩
 ·injection hcs with hcs
  have hcs : c8 = _:=hcs
  subst hcs
  have h1 : Rows.uptoBulk y8.1 = 1:=by rw [hy8];simp [Rows.uptoBulk]
  exact ⟨by show n2.size + n3.size + n4.size + 10<=_;omega,bounds_i64 w6,[],⟨none,0,rfl,Nat.le_refl _,fun h=>absurd h (by simp)⟩,fun h=>absurd h (by simp),fun z hz=>by simp at hz,by simp⟩
 ·injection hcs with hcs
  have hcs : c8 = _:=hcs
  subst hcs
  have hlm : len'<=zs.length:=by rw [hz];split <;> omega
  have hlen' : (zs.take len').length = len':=by simp;omega
  have hy : len' + 1<=Rows.uptoBulk y8.1:=by
   rw [hy8]
   simp only [Rows.uptoBulk,bulk_lits]
   rw [hlen'];omega
  have hrd : RdI W (.slice (some a) len' cap') (zs.take len'):=by
   refine ⟨some a,cap',by rw [hlen'],by rw [hlen'];exact hl',fun h0=>?_⟩
   rw [hlen'] at h0
   obtain ⟨b,off,spot⟩:=a
   have h1:=hc 0 (by omega)
   have hspot : spot = none:=by simpa [Addr.add] using World.cell?_spot h1
   subst hspot
   refine ⟨b,off,rfl,fun j hj=>?_⟩
   rw [hlen'] at hj
   have h2:=hc j (by omega)
   rw [Addr.add_lit] at h2
   rw [h2,List.getD_eq_getElem?_getD,List.getD_eq_getElem?_getD,List.getElem?_take,if_pos hj]
  refine ⟨by show n2.size + n3.size + n4.size + 10<=_;omega,bounds_i64 w6,zs.take len',hrd,fun h0 k hk=>?_,fun z hzm=>bounds_i64 (hw z (List.mem_of_mem_take hzm)),by rw [hlen'];omega⟩
  obtain ⟨a2,cap2,hv,_,h1⟩:=hrd
  obtain ⟨b,off,rfl,h2⟩:=h1 h0
  injection hv with hv1
  rw [hv1] at hk
  obtain rfl : b = k:=Option.some.inj hk
  exact cell_lt (h2 0 h0)
instance : Inhabited OpV:=⟨⟨0,false,.empty,.empty,.empty,false,0,0,.slice none 0 0⟩⟩
theorem open_ops {H : Type} {enc : TypeId × Value->H} {a0 : Option Addr} {len cap : Nat} {x : DataW H × List MemPlace} (hf : DataW.trod enc Tryz.prog W 0 (fun _=>true) true fuel 24 [.slice a0 len cap] = some x) (hs : Rows.uptoBulk x.1<=1048576) :
  ∃ os,Scr W W.heap.size (.slice a0 len cap) os/\os.length<=110000:=by
 rcases Deep.open_slice Tryz.underlying24 hf with ⟨hcs,hx⟩ | ⟨a,len',cap',m,n,D,Pl,hcs,hb,hl,hm,hmm,hx,he⟩
 ·simp at hcs
  obtain ⟨rfl,rfl,rfl⟩:=hcs
  exact ⟨[],⟨⟨none,0,rfl,fun h=>absurd h (by simp)⟩,fun o ho=>by simp at ho⟩,by simp⟩
 ·simp at hcs
  obtain ⟨rfl,rfl,rfl⟩:=hcs
  rw [cellsOp] at he
  have hml : len<=m:=by rw [hmm];split <;> omega
  have hall : Rows.uptoBulkAll ((List.range len).map D)<=1048576:=by
   rw [hx] at hs
   simp only [Rows.uptoBulk] at hs
   omega
  obtain ⟨f,hf2⟩:=Deep.choose_lt (p:=fun i (o : OpV)=>(∀ j v,o.row.toList[j]? = some v->W.cell? ((a.add (i * 9)).add j) = some v)/\o.k.size + o.v.size + o.c.size + 10<=Rows.uptoBulk (D i)/\R64 o.A/\∃ keep,RdI W o.n keep/\(0 < keep.length->InZ (fun z=>z < W.heap.size) o.n)/\In64 keep/\keep.length<=Rows.uptoBulk (D i)) (n:=len) fun i hi=>by
   obtain ⟨cs',hcells,ht⟩:=he i (by omega)
   obtain ⟨_,hlen,hcell⟩:=World.cells?_some hcells
   obtain ⟨o,rfl,h1⟩:=open_op ht
   exact ⟨o,fun j v hj=>by rw [hcell j (by have:=(List.getElem?_eq_some_iff.1 hj).1;omega)];exact hj,h1⟩
  have hD : ∀ i,i < len->Rows.uptoBulk (D i)<=1048576:=fun i hi=>Nat.le_trans (bulk_mem (List.mem_map.2 ⟨i,List.mem_range.2 hi,rfl⟩)) hall
  have hten:=bulk_ten (l:=(List.range len).map D) fun x hx=>by
   obtain ⟨i,hi,rfl⟩:=List.mem_map.1 hx
   have:=(hf2 i (List.mem_range.1 hi)).2.1
   omega
  simp only [List.length_map,List.length_range] at hten
  refine ⟨(List.range len).map f,⟨⟨some a,cap,by simp,fun h0=>?_⟩,fun o ho=>?_⟩,by simp;omega⟩
  ·simp only [List.length_map,List.length_range] at h0
   obtain ⟨b,off,spot⟩:=a
   have h1:=(hf2 0 h0).1 0 _ rfl
   have hspot : spot = none:=by simpa [Addr.add] using World.cell?_spot h1
   subst hspot
   refine ⟨b,off,rfl,?_,fun i hi j v hj=>?_⟩
   ·rw [Addr.add_lit,Addr.add_lit] at h1
    exact cell_lt h1
   ·simp only [List.length_map,List.length_range] at hi
    have h2:=(hf2 i hi).1 j v (by simpa using hj)
    rw [Addr.add_lit,Addr.add_lit] at h2
    exact h2
  ·obtain ⟨i,hi,rfl⟩:=List.mem_map.1 ho
   have hi:=List.mem_range.1 hi
   obtain ⟨_,h1,h2,keep,h3,h4,h5,h6⟩:=hf2 i hi
   have:=hD i hi
   exact ⟨by omega,by omega,by omega,h2.2,keep,h3,h4,h5,by omega⟩
def cellsOf (d : DataW Unit) : Array Value:=match d with
 | .agg l=>(l.map fun x=>match x with | .lit (.int k n)=>Value.int k n | _=>Value.bool false).toArray
 | _=>#[]
noncomputable def laidWorld (os : Os) : World :=
 let N:=(World.settled Tryz.prog os).heap.size
 let w0:=World.holding Tryz.prog os ⟨#[.cells #[.string ⟨#[118,97,108,117,101,32,111,117,116,32,111,102,32,114,97,110,103,101]⟩] 341,.cells #[.string ⟨#[105,110,118,97,108,105,100,32,115,121,110,116,97,120]⟩] 341],#[],[]⟩
 let put (h : Array Obj) (g : Nat) (cs : Array Value) : Array Obj:=h.modify g fun
  | .cells _ t frozen=>.cells cs t frozen
  | o=>o
 let h1:=put w0.heap 0 (cellsOf Rows.laid_internal_strconv_uint64pow10)
 let h2:=put h1 1 (cellsOf Rows.laid_math_bits_deBruijn32tab)
 let h3:=put h2 2 (cellsOf Rows.laid_math_bits_deBruijn64tab)
 let h4:=put h3 3 #[.iface 339 (.pointer (some ⟨N + 1,0,none⟩))]
 let h5:=put h4 4 #[.iface 339 (.pointer (some ⟨N,0,none⟩))]
 { w0 with heap:=h5 }
noncomputable abbrev N0 : Nat:=(World.settled Tryz.prog default).heap.size
abbrev WA : Array Value:=#[.int .i64 0,.agg #[.int .i64 0,.int .i64 0,.int .i64 0],.agg #[.int .i64 0,.int .i64 0,.int .i64 0],.slice none 0 0]
theorem form_handed {c : OpenClaim} {C : Checked} {os : Os} {f : FuncId} {L : List FuncId} {Pre : World->Array Value->Prop} {Post : Stop.Interp->World->Array Value->Value->World->Prop} (hs : c.start = .entering) (hst : c.stops = []) (hnb : c.noBlocks = false) (hfo : c.followed = none) (hl : c.leaving = false) (h : c.form C os f L Pre Post) (F : Stop.Interp) : ReturnsInHanded c.assume C os f .any Pre (Post F):=by
 have e1 : c.okInput = Input.okWide:=by unfold OpenClaim.okInput;rw [hnb]
 have e2 : c.always C.prog L = nothingAlways:=by unfold OpenClaim.always;rw [hfo]
 have e3 : c.atReturn C.prog = aloneAtReturn C.prog:=by unfold OpenClaim.atReturn;rw [hl]
 unfold OpenClaim.form at h
 rw [hs,hst] at h
 have h:=h F
 rw [e1,e2,e3] at h
 exact fun _=>h
theorem form_leaving {c : OpenClaim} {C : Checked} {os : Os} {f : FuncId} {L : List FuncId} {Pre : World->Array Value->Prop} {Post : Stop.Interp->World->Array Value->Value->World->Prop} (hs : c.start = .entering) (hst : c.stops = []) (hnb : c.noBlocks = false) (hfo : c.followed = none) (hl : c.leaving = true) (hm : C.prog.mayEnter = true) (h : ∀ F,ReturnsInLeavingWide c.assume C os f .any Pre (Post F)) : c.form C os f L Pre Post:=by
 have e1 : c.okInput = Input.okWide:=by unfold OpenClaim.okInput;rw [hnb]
 have e2 : c.always C.prog L = nothingAlways:=by unfold OpenClaim.always;rw [hfo]
 have e3 : c.atReturn C.prog = leavingAtReturn C.prog:=by unfold OpenClaim.atReturn;rw [hl]
 unfold OpenClaim.form
 rw [hs,hst]
 intro F
 rw [e1,e2,e3]
 exact h F hm
theorem leaving_row {p : Pinned} {s : OpenSpec} {c : OpenClaim} (hs : c.start = .entering) (hst : c.stops = []) (hnb : c.noBlocks = false) (hfo : c.followed = none) (hl : c.leaving = true) (hwf : c.wf s = true) (h : ({ c with leaving:=false } : OpenClaim).holds p s) : c.holds p s:=by
 obtain ⟨_,a1,a2,a3,a4,a5,a6,a7,f,fn,b1,b2,b3,b4,b5,b6,b7,b8,b9,b10,b11,b12,b13,b14,b15,b16,b17,b18,b19,b20,b21,L,hL,hform⟩:=h
 have hm : p.checked.prog.mayEnter = true:=by
  have h6 : c.startFits p.checked.prog:=a6
  unfold OpenClaim.startFits at h6
  rw [hs] at h6;exact h6
 exact ⟨hwf,a1,a2,a3,a4,a5,a6,a7,f,fn,b1,b2,b3,b4,b5,b6,b7,b8,b9,b10,b11,b12,b13,b14,b15,b16,b17,b18,b19,b20,b21,L,hL,fun os w q H enc inj=>form_leaving hs hst hnb hfo hl hm fun F =>
  leaving_of_handed (form_handed (c:={ c with leaving:=false }) hs hst hnb hfo rfl (hform os w q H enc inj) F)⟩
theorem card_goes (Lk : Looks) {p : Pinned} {s : OpenSpec} {c : OpenClaim} (kinds : List LaidKind) (tests : Bool) (har : Bool × String) (lk : Bool)
  (hc : c.holds p s) (hw : c.wfByText s = true) (htie : c.laidByTextAt Lk p kinds tests)
  (hst : c.start = .entering) (hnb : c.noBlocks = false/\c.again = false) (hm : p.checked.prog.mainIs = some (har.1,har.2.toList)) (hn : (!har.1 && har.2.isEmpty && !lk) = false)
  (hl : ∀ f fn,p.checked.prog.funcNamed c.func = some f->p.checked.prog.funcs[f]? = some fn->lk = p.checked.prog.looks []/\∀ (j : Nat) t,fn.params[j]? = some t->p.checked.prog.wantsStandIn t = false)
  (hg : true = c.goesBy p.checked.prog) :
  Claim7.holds p (.plain s) { stood:={ row:=c,standIns:=[],harness:=har,looks:=lk },kinds:=[],alts:=[],goes:=true,laidByText:=true,laidKinds:=kinds,laidTests:=tests,laidLooks:=Lk }:=by
 have h6 : Claim7.isSixth { stood:={ row:=c,standIns:=[],harness:=har,looks:=lk },kinds:=[] } = false:=by simpa [Claim7.isSixth] using hn
 have hnew:=Claim7.tied_new_at Lk kinds tests (Claim7.new_of_sixth hc har lk hst hnb hm h6 hl) hw
 exact ⟨hnew,(fun D hD=>by cases hD),htie,(fun h=>by cases h),hg⟩
end Go.Proofs.YtilkdeghknjjhaaGreatDoor.PlayRow
