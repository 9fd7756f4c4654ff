/- A part of the proof. -/
import Derived.Maps.OwnSet
import Derived.Sort.KeysCollected
import Derived.Sort.Walk0
import Derived.Shelf.SlIter.Nil
import Derived.Shelf.SortM.Plain
import Derived.Shelf.SortM.SortNone
import Derived.Ground.GgzProg
import Derived.Ground.SlgmProg
import Derived.Test.YtilkdeghknjjhaaGreatDoorPart29
set_option maxRecDepth 20000
set_option maxHeartbeats 3200000
set_option linter.unusedVariables false
namespace Go.Proofs.YtilkdeghknjjhaaGreatDoor
open Go.RowKit M
variable {w w' : World}
theorem Rd.same {v : Value} {l : List (Int × Int)} (h : Rd w v l) (hb : ∀ b,v.ownBlock = some b->w'.heap[b]? = w.heap[b]?) : Rd w' v l:=by
 obtain ⟨a,cap,hv,h1,h2,h3⟩:=h
 refine ⟨a,cap,hv,h1,h2,fun h0=>?_⟩
 obtain ⟨b,off,ha,hc⟩:=h3 h0
 have hn:=hb b (by rw [hv,ha];rfl)
 exact ⟨b,off,ha,fun j hj=>⟨(World.cell?_of_block hn).trans (hc j hj).1,(World.cell?_of_block hn).trans (hc j hj).2⟩⟩
def ModT (w : World) (L : List MuV) : Prop:=∀ y ∈ L,∀ b,y.s.ownBlock = some b->∃ cs,w.heap[b]? = some (.cells cs 183 (0,0))
theorem ModIn.growH {Z : Nat->Prop} {p : Nat} {node : Int} {L : List MuV} {vh v' : Value} {x : MuV} (h : ModIn Z w p node L vh) (hT : ModT w (L ++ [x])) (hz : ∀ k,w.heap.size<=k->Z k) (hg : w.grownBy w' vh.ownBlock)
  (hown : w'.ownsRow 0 191 4 v' (L.length + 1) (cellsM L ++ [.bool x.x.del,.string x.x.k,.string x.x.v,x.s])) (hv : v'.ownBlock = vh.ownBlock\/∀ k,v'.ownBlock = some k->w.heap.size<=k) (hrx : Rd w x.s x.x.c) (hzx : InZ Z x.s) :
  ModIn Z (w'.setCell ⟨p,1,none⟩ v') p node (L ++ [x]) v'/\ModT (w'.setCell ⟨p,1,none⟩ v') (L ++ [x]):=by
 have hp' : w'.heap[p]? = some (.cells #[.int .i64 node,vh] 132 (0,0)):=by
  rw [hg.block p (Array.getElem?_eq_some_iff.1 h.hp).1 (own_not h.rh h.hp (by decide))]
  exact h.hp
 have hblk : ∀ (b : Nat) (cs : Array Value),w.heap[b]? = some (.cells cs 183 (0,0))->(w'.setCell ⟨p,1,none⟩ v').heap[b]? = w.heap[b]?:=fun b cs hb=>by
  have h1 : w'.heap[b]? = w.heap[b]?:=hg.block b (Array.getElem?_eq_some_iff.1 hb).1 (own_not h.rh hb (by decide))
  rw [<- h1]
  refine Below.heap_setCell _ _ _ _ (fun e=>?_)
  have e : b = p:=e
  subst e
  rw [h.hp] at hb
  simp at hb
 have hrd : ∀ y ∈ L ++ [x],Rd w y.s y.x.c->Rd (w'.setCell ⟨p,1,none⟩ v') y.s y.x.c:=fun y hy hr=>hr.same fun b hb=>by
  obtain ⟨cs,hcs⟩:=hT y hy b hb
  exact hblk b cs hcs
 have hl : (L ++ [x]).length = L.length + 1:=by simp
 refine ⟨⟨h.zp,?_,?_,fun y hy=>hrd y hy ?_,?_,fun y hy=>?_⟩,fun y hy b hb=>?_⟩
 ·rw [heap_setCell_self hp'];rfl
 ·rw [hl,cellsM_snoc]
  exact own_setCell hown hp' (by decide)
 ·rcases List.mem_append.1 hy with hy | hy
  ·exact h.rc y hy
  ·rw [List.mem_singleton.1 hy];exact hrx
 ·intro k hk
  rcases hv with e | e
  ·exact h.zh k (e ▸ hk)
  ·exact hz k (e k hk)
 ·rcases List.mem_append.1 hy with hy | hy
  ·exact h.zc y hy
  ·rw [List.mem_singleton.1 hy];exact hzx
 ·obtain ⟨cs,hcs⟩:=hT y hy b hb
  exact ⟨cs,(hblk b cs hcs).trans hcs⟩
end Go.Proofs.YtilkdeghknjjhaaGreatDoor
namespace Go.Proofs.YtilkdeghknjjhaaGreatDoor
open Go.RowKit M Go.Maps
variable {w w' : World} {n : Nat} {Y : Nat->Prop} {mv : Value}
abbrev RV : Value->Option (DataW Value × List MemPlace):=fun v=>some (.held v,[])
theorem keyedS : Keyed Tryz.prog 9:=string_keyed Tryz.underlying9
def klS (k : ByteArray) : Lit:=.string k.data.toList
theorem klS_inj {a b : ByteArray} (h : klS a = klS b) : a = b:=by
 unfold klS at h
 have h1 : a.data.toList = b.data.toList:=by simpa using h
 exact toList_inj (by rw [Lib.toList_data,Lib.toList_data,h1])
theorem klS_key (k : ByteArray) (h : k.size<=maxLen) : keyOf Tryz.prog 9 (.string k) = some (klS k):=WideMaps.keyOf_string_mk Tryz.underlying9 h
def SetV (v : Value) : Prop:=∃ a n c a' n' c',v = .agg #[.slice a n c,.slice a' n' c']
structure TabD (w : World) (b n : Nat) (D : DataW Value) (T : ByteArray->Option Value) : Prop where
 own : w.ownsMap Tryz.prog 9 RV b n D
 at_ : ∀ k z,D.atKey (klS k) z = match T k with | some v=>.held v | none=>z
 sh : ∀ k v,T k = some v->SetV v
def TabV (w : World) (mv : Value) (n : Nat) (T : ByteArray->Option Value) : Prop :=
 (mv = .map none/\∀ k,T k = none)\/∃ b D,mv = .map (some b)/\TabD w b n D T
theorem TabD.has {b : Nat} {D : DataW Value} {T : ByteArray->Option Value} (h : TabD w b n D T) (k : ByteArray) : Maps.has D (klS k) = (T k).isSome:=by
 cases ht : T k with
 | none=>exact has_false_of_atKey (fun z=>by rw [h.at_,ht])
 | some v=>exact has_true_of_atKey (y:=.held v) (fun z=>by rw [h.at_,ht])
theorem ownsMap_of {P : Program} {k : TypeId} {R : Value->Option (DataW Value × List MemPlace)} {b : Nat} {D : DataW Value} (h : w.ownsMap P k R b n D) (hb : w'.heap[b]? = w.heap[b]?) : w'.ownsMap P k R b n D:=by
 obtain ⟨es,clock,h1,h2⟩:=h
 exact ⟨es,clock,hb.trans h1,h2⟩
theorem TabD.of {b : Nat} {D : DataW Value} {T : ByteArray->Option Value} (h : TabD w b n D T) (hb : w'.heap[b]? = w.heap[b]?) : TabD w' b n D T:=⟨ownsMap_of h.own hb,h.at_,h.sh⟩
theorem TabD.tr {b : Nat} {D : DataW Value} {T : ByteArray->Option Value} (h : TabD w b n D T) (t : Tr Y w w') (hz : ¬ Y b) : TabD w' b n D T:=h.of (t.block b h.own.lt hz)
theorem TabD.below {b : Nat} {D : DataW Value} {T : ByteArray->Option Value} (h : TabD w b n D T) (t : Below w.heap.size w w') : TabD w' b n D T:=h.of (t.block b h.own.lt)
def mapBlock : Value->Option Nat
 | .map o=>o
 | _=>none
def InM (Z : Nat->Prop) (v : Value) : Prop:=∀ k,mapBlock v = some k->Z k
theorem TabV.tr {T : ByteArray->Option Value} (h : TabV w mv n T) (t : Tr Y w w') (hz : InM (fun k=>¬ Y k) mv) : TabV w' mv n T:=by
 rcases h with h | ⟨b,D,rfl,h⟩
 ·exact .inl h
 ·exact .inr ⟨b,D,rfl,h.tr t (hz b rfl)⟩
theorem TabV.below {T : ByteArray->Option Value} (h : TabV w mv n T) (t : Below w.heap.size w w') : TabV w' mv n T:=by
 rcases h with h | ⟨b,D,rfl,h⟩
 ·exact .inl h
 ·exact .inr ⟨b,D,rfl,h.below t⟩
theorem TabV.mono {m : Nat} {T : ByteArray->Option Value} (h : TabV w mv n T) (hm : n<=m) : TabV w mv m T:=by
 rcases h with h | ⟨b,D,rfl,h⟩
 ·exact .inl h
 ·exact .inr ⟨b,D,rfl,h.own.mono hm,h.at_,h.sh⟩
def upd {α : Type} (T : ByteArray->α) (k : ByteArray) (v : α) : ByteArray->α:=fun x=>if x = k then v else T x
theorem upd_same {α : Type} (T : ByteArray->α) (k : ByteArray) (v : α) : upd T k v k = v:=by simp [upd]
theorem upd_other {α : Type} (T : ByteArray->α) {k x : ByteArray} (v : α) (h : x ≠ k) : upd T k v x = T x:=by simp [upd,h]
theorem TabD.put {b : Nat} {D : DataW Value} {T : ByteArray->Option Value} (h : TabD w b n D T) (k : ByteArray) (v : Value) (hv : SetV v) (ho : w'.ownsMap Tryz.prog 9 RV b (n + 1) (D.put (klS k) (.held v))) :
  TabD w' b (n + 1) (D.put (klS k) (.held v)) (upd T k (some v)):=by
 refine ⟨ho,fun x z=>?_,fun x u hu=>?_⟩
 ·by_cases hx : x = k
  ·subst hx
   rw [upd_same,atKey_put_same h.own.isMap (by simp [klS,WideAt.IsKeyLit])]
  ·rw [upd_other _ _ hx,atKey_put_other (fun e=>hx (klS_inj e)),h.at_]
 ·by_cases hx : x = k
  ·subst hx
   rw [upd_same] at hu
   cases hu;exact hv
  ·rw [upd_other _ _ hx] at hu
   exact h.sh x u hu
theorem TabD.del {b : Nat} {D : DataW Value} {T : ByteArray->Option Value} (h : TabD w b n D T) (k : ByteArray) (ho : w'.ownsMap Tryz.prog 9 RV b n (D.del (klS k))) :
  TabD w' b n (D.del (klS k)) (upd T k none):=by
 refine ⟨ho,fun x z=>?_,fun x u hu=>?_⟩
 ·by_cases hx : x = k
  ·subst hx
   rw [upd_same,atKey_del_same]
  ·rw [upd_other _ _ hx,atKey_del_other (fun e=>hx (klS_inj e)),h.at_]
 ·by_cases hx : x = k
  ·subst hx
   rw [upd_same] at hu;cases hu
  ·rw [upd_other _ _ hx] at hu
   exact h.sh x u hu
theorem TabD.keys {b : Nat} {D : DataW Value} {T : ByteArray->Option Value} (h : TabD w b n D T) (x : ByteArray) : x.data.toList ∈ strKeys D ↔ T x ≠ none:=by
 obtain ⟨es,hD,hpw,hkl⟩:=h.own.entries keyedS
 obtain ⟨es',hD',hko⟩:=h.own.keysOf
 obtain rfl : es = es':=by rw [hD] at hD';simpa using hD'
 have hh:=h.has x
 subst hD
 rw [show T x ≠ none ↔ (T x).isSome = true by cases T x <;> simp,<- hh,has_eq,List.any_eq_true]
 unfold strKeys
 rw [List.mem_map]
 constructor
 ·rintro ⟨p,hp,he⟩
  refine ⟨p,hp,?_⟩
  obtain ⟨v,hv⟩:=hko p hp
  obtain ⟨y,_,hy,_⟩:=Maps.keyOf_str Tryz.underlying9 hv
  rw [hy] at he ⊢
  have : y = x.data.toList:=he
  rw [this]
  exact WideAt.sameKey_self (by simp [WideAt.IsKeyLit])
 ·rintro ⟨p,hp,he⟩
  refine ⟨p,hp,?_⟩
  rw [WideAt.sameKey_eq he]
  rfl
theorem TabD.nodup {b : Nat} {D : DataW Value} {T : ByteArray->Option Value} (h : TabD w b n D T) : (strKeys D).Nodup:=by
 obtain ⟨es,hD,hpw,hkl⟩:=h.own.entries keyedS
 obtain ⟨es',hD',hko⟩:=h.own.keysOf
 obtain rfl : es = es':=by rw [hD] at hD';simpa using hD'
 subst hD
 refine List.pairwise_map.2 (hpw.imp_of_mem fun {p q} hp hq hne e=>hne ?_)
 obtain ⟨v,hv⟩:=hko p hp
 obtain ⟨y,_,hy,_⟩:=Maps.keyOf_str Tryz.underlying9 hv
 obtain ⟨v',hv'⟩:=hko q hq
 obtain ⟨y',_,hy',_⟩:=Maps.keyOf_str Tryz.underlying9 hv'
 rw [hy,hy'] at e ⊢
 exact congrArg _ e
theorem leB_bl {x y : List UInt8} (h : leB x y = true) : Op.bytesLess x y = true\/x = y:=by
 have h1 : x<=y:=by simpa [leB] using h
 rcases less_tri x y with h2 | h2 | h2
 ·exact .inl h2
 ·exact .inr h2
 ·rw [bytesLess_eq] at h2
  have h3 : y < x:=by simpa using h2
  exact absurd h3 (List.not_lt.2 h1)
def baL (l : List UInt8) : ByteArray:=⟨l.toArray⟩
theorem baL_data (k : ByteArray) : baL k.data.toList = k:=by cases k;simp [baL]
theorem baL_toList (l : List UInt8) : (baL l).toList = l:=by rw [Lib.toList_data];simp [baL]
theorem sort_rising {ks : List (List UInt8)} {l : List (List UInt8)} (hp : ks.Perm l) (hnd : l.Nodup) :
  ∃ out : List ByteArray,(ks.mergeSort leB).map encStr = cellsX out/\out.length = ks.length/\out.Pairwise (fun a b=>bl a b = true)/\∀ x : ByteArray,x ∈ out ↔ x.data.toList ∈ l:=by
 have tr : ∀ a b c : List UInt8,leB a b = true->leB b c = true->leB a c = true:=fun a b c h1 h2=>by
  simp only [leB,decide_eq_true_eq] at *;exact List.le_trans h1 h2
 have tot : ∀ a b : List UInt8,(leB a b || leB b a) = true:=fun a b=>by
  simp only [leB,Bool.or_eq_true,decide_eq_true_eq];exact List.le_total a b
 have hps : (ks.mergeSort leB).Perm l:=(List.mergeSort_perm ks leB).trans hp
 have hs:=List.pairwise_mergeSort tr tot ks
 have hn : (ks.mergeSort leB).Nodup:=hps.nodup_iff.2 hnd
 refine ⟨(ks.mergeSort leB).map baL,?_,by simp,?_,fun x=>?_⟩
 ·unfold cellsX
  rw [List.map_map]
  rfl
 ·refine List.pairwise_map.2 ((hs.and hn).imp fun {a b} hab=>?_)
  unfold bl
  rw [baL_toList,baL_toList]
  rcases leB_bl hab.1 with h | h
  ·exact h
  ·exact absurd h hab.2
 ·rw [List.mem_map]
  constructor
  ·rintro ⟨a,ha,rfl⟩
   have : (baL a).data.toList = a:=by simp [baL]
   rw [this]
   exact hps.mem_iff.1 ha
  ·intro h
   exact ⟨_,hps.mem_iff.2 h,baL_data x⟩
end Go.Proofs.YtilkdeghknjjhaaGreatDoor
namespace Go.Proofs.YtilkdeghknjjhaaGreatDoor
open Go.RowKit M Go.Maps
theorem zeroSet (w : World) : (zeroValue 117).run Tryz.prog w = .ok (.agg #[.slice none 0 0,.slice none 0 0]) w:=by kernel_rfl
def zSet : Value:=.agg #[.slice none 0 0,.slice none 0 0]
def tget (T : ByteArray->Option Value) (k : ByteArray) : Value:=match T k with | some v=>v | none=>zSet
theorem result_tget (tmps : Array Value) (w : World) (g : Nat) (v1 v2 : Value) (b : Bool) (h4 : tmps.getD 4 undef = .pointer (some ⟨g,0,none⟩)) (h5 : tmps.getD 5 undef = .bool b) (hg : w.heap[g]? = some (.cells #[v1,v2] 117 (0,0))) :
  (results Tryz.f55 tmps).run Tryz.prog w = .ok (.tuple #[.agg #[v1,v2],.bool b]) w:=by
 have hl:=run_loadVar_row (P:=Tryz.prog) w g 117 117 #[v1,v2] (0,0) _ hg Tryz.underlying117 rfl info38
 have h4' : tmps[4]?.getD undef = .pointer (some ⟨g,0,none⟩):=by simpa using h4
 have h5' : tmps[5]?.getD undef = .bool b:=by simpa using h5
 simp [results,Tryz.results55,h4',h5',asAddr,hl]
theorem look_tab (mv : Value) (n : Nat) (T : ByteArray->Option Value) (k : ByteArray) (w : World) (h : TabV w mv n T) (hk : k.size<=maxLen) :
  (Instr.lookup 82 mv (.string k) true).run Tryz.prog w = .ok (.tuple #[tget T k,.bool (T k).isSome]) w:=by
 rcases h with ⟨rfl,hT⟩ | ⟨b,D,rfl,h⟩
 ·have:=Maps.look_nil (w:=w) true keyedS Tryz.underlying82 (zeroSet w) (klS_key k hk)
  rw [this]
  unfold tget
  rw [hT]
  rfl
 ·obtain ⟨v,ps,hrun,hv⟩:=h.own.look_ok keyedS Tryz.underlying82 (zeroSet w) (zd:=.held zSet) (zp:=[]) rfl (klS_key k hk)
  rw [hrun,h.has k]
  rw [h.at_ k] at hv
  unfold tget
  cases ht : T k with
  | none=>rw [ht] at hv;simp at hv;rw [hv.1]
  | some u=>rw [ht] at hv;simp at hv;rw [hv.1]
theorem tget_sh {w : World} {mv : Value} {n : Nat} {T : ByteArray->Option Value} (h : TabV w mv n T) (k : ByteArray) : SetV (tget T k):=by
 unfold tget
 cases ht : T k with
 | none=>exact ⟨none,0,0,none,0,0,rfl⟩
 | some u =>
  rcases h with ⟨rfl,hT⟩ | ⟨b,D,rfl,h⟩
  ·rw [hT] at ht;cases ht
  ·exact h.sh k u ht
theorem tGet_any (p o : Nat) (mv : Value) (n : Nat) (T : ByteArray->Option Value) (k : ByteArray) (w : World) (hc : w.cell? ⟨p,o,none⟩ = some mv) (h : TabV w mv n T) (hk : k.size<=maxLen) :
  Calls Tryz.prog 55 #[.pointer (some ⟨p,o,none⟩),.string k] w fun e w'=>e = .returned (.tuple #[tget T k,.bool (T k).isSome])/\Below w.heap.size w w':=by
 obtain ⟨W,hW,HR,HB,hc1,HL⟩ : ∃ W,(w.alloc (.cells #[.slice none 0 0,.slice none 0 0] 117)) = W/\Hid (W.heap[w.heap.size]? = some (.cells nilSet 117 (0,0)))/\Hid (Below w.heap.size w W)/\W.cell? ⟨p,o,none⟩ = some mv /\
   (Instr.lookup 82 mv (.string k) true).run Tryz.prog W = .ok (.tuple #[tget T k,.bool (T k).isSome]) W :=
  ⟨_,rfl,heap_alloc_new w _,(Below.refl _ _).alloc (Nat.le_refl _) _,cell_later ((Below.refl _ _).alloc (Nat.le_refl _) _) hc,look_tab mv n T k _ (h.below ((Below.refl _ _).alloc (Nat.le_refl _) _)) hk⟩
 obtain ⟨a,l,c,a',l',c',hsv⟩:=tget_sh h k
 rw [hsv] at HL ⊢
 obtain ⟨t,ht⟩ : ∃ t,(T k).isSome = t:=⟨_,rfl⟩
 rw [ht] at HL ⊢
 clear h hc hsv ht
 go_enter Tryz.func55,Tryz.ntmps55
 go_upto_region 1 with (fail)
 clear hW
 have HR2 : Hid (∀ o,(W.alloc o).heap[w.heap.size]? = some (.cells nilSet 117 (0,0))):=fun o=>heap_later ((Below.refl _ W).alloc (Nat.le_refl _) o) HR.out
 have HB2 : Hid (∀ o,Below w.heap.size w (W.alloc o)):=fun o=>HB.out.alloc HB.out.size o
 go_wp2_with (first
  | (refine wpList_store_row rfl 117 _ _ rfl w.heap.size #[.slice a l c,.slice a' l' c'] rfl rfl 117 nilSet (HR2.out _) info38 rfl (one_two _ _ _ _ _ _) ?_))
 refine bodyPost_ret (result_tget _ _ w.heap.size _ _ t rfl rfl (setRow_heap _ _ _ _ _ _ (HR2.out _))) rfl ⟨rfl,below_setRow (HB2.out _) (Nat.le_refl _) _⟩
theorem tDelete_any (p o : Nat) (mv : Value) (n : Nat) (T : ByteArray->Option Value) (k : ByteArray) (w : World) (hc : w.cell? ⟨p,o,none⟩ = some mv) (h : TabV w mv n T) (hk : k.size<=maxLen) :
  Calls Tryz.prog 156 #[.pointer (some ⟨p,o,none⟩),.string k] w fun e w'=>e = .returned (.tuple #[])/\TabV w' mv n (upd T k none)/\Tr (fun b=>mapBlock mv = some b) w w':=by
 rcases h with ⟨rfl,hT⟩ | ⟨b,D,rfl,h⟩
 ·have HT : Hid (TabV w (.map none) n (upd T k none)):=.inl ⟨rfl,fun x=>by unfold upd;split;rfl;exact hT x⟩
  have hd:=fun ty=>Maps.drop_nil (w:=w) keyedS Tryz.underlying82 (klS_key k hk) ty
  clear hT
  go_enter Tryz.func156,Tryz.ntmps156
  go_wp2
  go_end0
  exact ⟨rfl,HT.out,Tr.refl _ _⟩
 ·have HD : Hid (∀ w',w'.ownsMap Tryz.prog 9 RV b n (D.del (klS k))->TabV w' (.map (some b)) n (upd T k none)):=fun w' ho=>.inr ⟨b,_,rfl,h.del k ho⟩
  have hown:=h.own
  have hkey:=klS_key k hk
  clear h hk
  go_enter Tryz.func156,Tryz.ntmps156
  go_wp2_with (first
   | (at_delete;refine wpList_delete_own _ rfl _ _ 82 9 rfl 117 keyedS Tryz.underlying82 _ b n D rfl hown _ _ rfl hkey ?_;intro w1 hown1 hturn1))
  go_end0
  have hg:=hturn1.grown
  exact ⟨rfl,HD.out w1 hown1,⟨hg.os,hg.tape,hg.output,hg.size,fun i hi hz=>hg.block i hi (fun e=>hz e.symm)⟩⟩
end Go.Proofs.YtilkdeghknjjhaaGreatDoor
namespace Go.Proofs
open Go.RowKit Go.Maps Go.Sort Go.Shelf
def Tryz.keys97_ren : Go.Shelf.Ren:=⟨fun | 7=>97 | 10=>164 | n=>n,fun | 23=>82 | 26=>9 | 3=>117 | 28=>179 | 0=>0 | 27=>178 | 33=>118 | 4=>4 | n=>n,fun | n=>n⟩
theorem Tryz.keys97 : Go.Proofs.SlLaysZ.n7 Tryz.prog Tryz.keys97_ren:={
 mixed:=by kernel_rfl
 f7:=⟨Tryz.f97.name,by decide,Tryz.func97.trans (congrArg some (by kernel_rfl))⟩
 f10:=⟨Tryz.f164.name,by decide,Tryz.func164.trans (congrArg some (by kernel_rfl))⟩
 t0:=Tryz.underlying0
 a0:=Tryz.isAgg0
 z0:=Tryz.sizeOf0
 v0:=Tryz.zeroValue0
 t4:=Tryz.underlying4
 a4:=Tryz.isAgg4
 z4:=Tryz.sizeOf4
 v4:=Tryz.zeroValue4
 t23:=Tryz.underlying82
 a23:=Tryz.isAgg82
 z23:=Tryz.sizeOf82
 v23:=Tryz.zeroValue82
 t26:=Tryz.underlying9
 a26:=Tryz.isAgg9
 z26:=Tryz.sizeOf9
 v26:=Tryz.zeroValue9
 t27:=Tryz.underlying178
 a27:=Tryz.isAgg178
 z27:=Tryz.sizeOf178
 v27:=Tryz.zeroValue178
 t28:=Tryz.underlying179
 a28:=Tryz.isAgg179
 z28:=Tryz.sizeOf179
 v28:=Tryz.zeroValue179
 t33:=Tryz.underlying118
 a33:=Tryz.isAgg118
 z33:=Tryz.sizeOf118
 v33:=Tryz.zeroValue118 }
def Tryz.sorted96_ren : Go.Shelf.Ren:=⟨fun | 6=>96 | 8=>162 | 9=>163 | 11=>211 | 13=>213 | 12=>212 | 23=>247 | 24=>207 | 14=>238 | 15=>239 | 16=>240 | 17=>241 | 18=>242 | 19=>243 | 20=>244 | 21=>245 | 22=>246 | 25=>270 | 26=>271 | 27=>272 | 28=>273 | 29=>274 | 30=>275 | 31=>286 | n=>n,fun | 26=>9 | 28=>179 | 24=>34 | 0=>0 | 3=>3 | 37=>207 | 48=>156 | 50=>153 | 4=>4 | 40=>294 | 39=>293 | 45=>139 | 5=>5 | 9=>9 | 51=>319 | 55=>322 | 57=>336 | 58=>331 | 33=>118 | n=>n,fun | n=>n⟩
theorem Tryz.sorted96 : Go.Proofs.SlLaysZ.n6 Tryz.prog Tryz.sorted96_ren:={
 mixed:=by kernel_rfl
 f6:=⟨Tryz.f96.name,by decide,Tryz.func96.trans (congrArg some (by kernel_rfl))⟩
 f8:=⟨Tryz.f162.name,by decide,Tryz.func162.trans (congrArg some (by kernel_rfl))⟩
 f11:=⟨Tryz.f211.name,by decide,Tryz.func211.trans (congrArg some (by kernel_rfl))⟩
 t0:=Tryz.underlying0
 a0:=Tryz.isAgg0
 z0:=Tryz.sizeOf0
 v0:=Tryz.zeroValue0
 t24:=Tryz.underlying34
 a24:=Tryz.isAgg34
 z24:=Tryz.sizeOf34
 v24:=Tryz.zeroValue34
 t26:=Tryz.underlying9
 a26:=Tryz.isAgg9
 z26:=Tryz.sizeOf9
 v26:=Tryz.zeroValue9
 t28:=Tryz.underlying179
 a28:=Tryz.isAgg179
 z28:=Tryz.sizeOf179
 v28:=Tryz.zeroValue179
 i26:=by kernel_rfl }
def Tryz.sort163_ren : Go.Shelf.Ren:=⟨fun | 6=>163 | 8=>213 | 9=>212 | 19=>247 | 20=>207 | 21=>238 | 22=>239 | 23=>240 | 24=>241 | 25=>242 | 26=>243 | 27=>244 | 28=>245 | 29=>246 | 36=>270 | 31=>271 | 32=>272 | 37=>273 | 38=>274 | 39=>275 | 41=>286 | n=>n,fun | 27=>34 | 29=>9 | 3=>3 | 32=>207 | 26=>34 | 0=>0 | 44=>156 | 46=>153 | 4=>4 | 36=>294 | 35=>293 | 41=>139 | 5=>5 | 9=>9 | 53=>319 | 57=>322 | 63=>336 | 64=>331 | n=>n,fun | n=>n⟩
theorem Tryz.sort163 : Go.Proofs.SlLaysM.n6 Tryz.prog Tryz.sort163_ren:={
 mixed:=by kernel_rfl
 f6:=⟨Tryz.f163.name,by decide,Tryz.func163.trans (congrArg some (by kernel_rfl))⟩
 f8:=Tryz.func213.trans (congrArg some (by kernel_rfl))
 f9:=⟨Tryz.f212.name,by decide,Tryz.func212.trans (congrArg some (by kernel_rfl))⟩
 f19:=Tryz.func247.trans (congrArg some (by kernel_rfl))
 f20:=Tryz.func207.trans (congrArg some (by kernel_rfl))
 f21:=⟨Tryz.f238.name,by decide,Tryz.func238.trans (congrArg some (by kernel_rfl))⟩
 f22:=⟨Tryz.f239.name,by decide,Tryz.func239.trans (congrArg some (by kernel_rfl))⟩
 f23:=⟨Tryz.f240.name,by decide,Tryz.func240.trans (congrArg some (by kernel_rfl))⟩
 f24:=⟨Tryz.f241.name,by decide,Tryz.func241.trans (congrArg some (by kernel_rfl))⟩
 f25:=⟨Tryz.f242.name,by decide,Tryz.func242.trans (congrArg some (by kernel_rfl))⟩
 f26:=⟨Tryz.f243.name,by decide,Tryz.func243.trans (congrArg some (by kernel_rfl))⟩
 f27:=⟨Tryz.f244.name,by decide,Tryz.func244.trans (congrArg some (by kernel_rfl))⟩
 f28:=⟨Tryz.f245.name,by decide,Tryz.func245.trans (congrArg some (by kernel_rfl))⟩
 f29:=⟨Tryz.f246.name,by decide,Tryz.func246.trans (congrArg some (by kernel_rfl))⟩
 f31:=Tryz.func271.trans (congrArg some (by kernel_rfl))
 f32:=Tryz.func272.trans (congrArg some (by kernel_rfl))
 f36:=⟨Tryz.f270.name,by decide,Tryz.func270.trans (congrArg some (by kernel_rfl))⟩
 f37:=⟨Tryz.f273.name,by decide,Tryz.func273.trans (congrArg some (by kernel_rfl))⟩
 f38:=⟨Tryz.f274.name,by decide,Tryz.func274.trans (congrArg some (by kernel_rfl))⟩
 f39:=⟨Tryz.f275.name,by decide,Tryz.func275.trans (congrArg some (by kernel_rfl))⟩
 f41:=⟨Tryz.f286.name,by decide,Tryz.func286.trans (congrArg some (by kernel_rfl))⟩
 t0:=Tryz.underlying0
 a0:=Tryz.isAgg0
 z0:=Tryz.sizeOf0
 v0:=Tryz.zeroValue0
 t3:=Tryz.underlying3
 a3:=Tryz.isAgg3
 z3:=Tryz.sizeOf3
 v3:=Tryz.zeroValue3
 t4:=Tryz.underlying4
 a4:=Tryz.isAgg4
 z4:=Tryz.sizeOf4
 v4:=Tryz.zeroValue4
 t5:=Tryz.underlying5
 a5:=Tryz.isAgg5
 z5:=Tryz.sizeOf5
 v5:=Tryz.zeroValue5
 t9:=Tryz.underlying9
 a9:=Tryz.isAgg9
 z9:=Tryz.sizeOf9
 v9:=Tryz.zeroValue9
 t26:=Tryz.underlying34
 a26:=Tryz.isAgg34
 z26:=Tryz.sizeOf34
 v26:=Tryz.zeroValue34
 t27:=Tryz.underlying34
 a27:=Tryz.isAgg34
 z27:=Tryz.sizeOf34
 v27:=Tryz.zeroValue34
 t29:=Tryz.underlying9
 a29:=Tryz.isAgg9
 z29:=Tryz.sizeOf9
 v29:=Tryz.zeroValue9
 t32:=Tryz.underlying207
 a32:=Tryz.isAgg207
 z32:=Tryz.sizeOf207
 v32:=Tryz.zeroValue207
 t35:=Tryz.underlying293
 a35:=Tryz.isAgg293
 z35:=Tryz.sizeOf293
 v35:=Tryz.zeroValue293
 t36:=Tryz.underlying294
 a36:=Tryz.isAgg294
 z36:=Tryz.sizeOf294
 v36:=Tryz.zeroValue294
 t41:=Tryz.underlying139
 a41:=Tryz.isAgg139
 z41:=Tryz.sizeOf139
 v41:=Tryz.zeroValue139
 t44:=Tryz.underlying156
 a44:=Tryz.isAgg156
 z44:=Tryz.sizeOf156
 v44:=Tryz.zeroValue156
 t46:=Tryz.underlying153
 a46:=Tryz.isAgg153
 z46:=Tryz.sizeOf153
 v46:=Tryz.zeroValue153
 t53:=Tryz.underlying319
 a53:=Tryz.isAgg319
 z53:=Tryz.sizeOf319
 v53:=Tryz.zeroValue319
 t57:=Tryz.underlying322
 a57:=Tryz.isAgg322
 z57:=Tryz.sizeOf322
 v57:=Tryz.zeroValue322
 t63:=Tryz.underlying336
 a63:=Tryz.isAgg336
 z63:=Tryz.sizeOf336
 v63:=Tryz.zeroValue336
 t64:=Tryz.underlying331
 a64:=Tryz.isAgg331
 z64:=Tryz.sizeOf331
 v64:=Tryz.zeroValue331 }
theorem Tryz.sorts96 (m : Nat) : AnyZ.SortsIn Tryz.prog Tryz.sorted96_ren Fence.wide m :=
 ⟨fun blk off cap ss W hH hblk hsz=>callsIn_wide.2 (AnyM.slices_Sort_string Tryz.sort163 blk off cap ss W hH hblk hsz),
  fun p cap W=>callsIn_wide.2 (AnyM.slices_Sort_string_none Tryz.sort163 p cap W)⟩
theorem Tryz.maps_Keys_97 (mb : Option Nat) (W : World) : CallsIn Fence.wide 5 Tryz.prog 97 #[.map mb] W fun e w'=>e = .returned (.func (.func 164) #[] #[.pointer (some ⟨W.heap.size,0,none⟩)])/\w' = W.alloc (.cells #[.map mb] 82) :=
 AnyZ.keys_in Tryz.keys97 Fence.wide 5 trivial rfl mb W
theorem Tryz.slices_Sorted_keys_96_97 {H : Type} (b nn : Nat) (D0 : DataW H) (R : Value->Option (DataW H × List MemPlace)) (w : World) (hown : w.ownsMap Tryz.prog 9 R b nn D0) (hmax : Maps.size D0<=maxLen) (hbytes : Maps.size D0 * 16<=140737488355328) :
  CallsIn Fence.wide 5 Tryz.prog 96 #[.func (.func 164) #[] #[.pointer (some ⟨w.heap.size,0,none⟩)]] (w.alloc (.cells #[.map (some b)] 82)) fun e w'=>∃ (v : Value) (ss : List (List UInt8)),e = .returned v/\ss.Perm (strKeys D0) /\
   w'.ownsRow (w.alloc (.cells #[.map (some b)] 82)).heap.size 9 1 v ss.length ((ss.mergeSort (fun x y=>decide (x<=y))).map encStr)/\(v = .slice none 0 0 ↔ ss = [])/\Below (w.alloc (.cells #[.map (some b)] 82)).heap.size (w.alloc (.cells #[.map (some b)] 82)) w':=by
 have hbl:=hown.lt
 have hseq : SeqGives Fence.wide 2 Tryz.prog 164 #[.pointer (some ⟨w.heap.size,0,none⟩)] encStr (fun ss=>ss.Perm (strKeys D0)) (Maps.size D0) (w.alloc (.cells #[.map (some b)] 82)) :=
  AnyZ.keys_gives (ρ:=Tryz.keys97_ren) { Tryz.keys97 with } Fence.wide _ trivial rfl (by omega) w.heap.size b nn D0 _ (by simp) (by simp) (by
   obtain ⟨es,clock,hb,Ft,hs,hD⟩:=hown
   exact ⟨es,clock,(Below.heap_alloc _ _ b hbl).trans hb,Ft,hs,hD⟩)
 exact AnyZ.sorted_in Tryz.sorted96 Fence.wide 5 trivial trivial trivial trivial rfl (by omega) (Tryz.sorts96 _) (enters_of Tryz.func163 (by kernel_rfl) rfl) 164 #[.pointer (some ⟨w.heap.size,0,none⟩)] trivial (enters_of Tryz.func164 (by kernel_rfl) rfl) _ _ hmax hbytes _ hseq
theorem Tryz.slices_Sorted_keys_nil_96_97 (w : World) :
  CallsIn Fence.wide 5 Tryz.prog 96 #[.func (.func 164) #[] #[.pointer (some ⟨w.heap.size,0,none⟩)]] (w.alloc (.cells #[.map none] 82)) fun e w'=>∃ (v : Value) (ss : List (List UInt8)),e = .returned v/\ss = [] /\
   w'.ownsRow (w.alloc (.cells #[.map none] 82)).heap.size 9 1 v ss.length ((ss.mergeSort (fun x y=>decide (x<=y))).map encStr)/\(v = .slice none 0 0 ↔ ss = [])/\Below (w.alloc (.cells #[.map none] 82)).heap.size (w.alloc (.cells #[.map none] 82)) w':=by
 have hseq : SeqGives Fence.wide 2 Tryz.prog 164 #[.pointer (some ⟨w.heap.size,0,none⟩)] encStr (fun ss : List (List UInt8)=>ss = []) 0 (w.alloc (.cells #[.map none] 82)) :=
  AnyZ.keys_gives_nil (ρ:=Tryz.keys97_ren) { Tryz.keys97 with } Fence.wide _ trivial rfl w.heap.size _ (by simp) (by simp)
 exact AnyZ.sorted_in Tryz.sorted96 Fence.wide 5 trivial trivial trivial trivial rfl (by omega) (Tryz.sorts96 _) (enters_of Tryz.func163 (by kernel_rfl) rfl) 164 #[.pointer (some ⟨w.heap.size,0,none⟩)] trivial (enters_of Tryz.func164 (by kernel_rfl) rfl) _ 0 (Nat.zero_le _) (by omega) _ hseq
end Go.Proofs
namespace Go.Proofs.YtilkdeghknjjhaaGreatDoor
open Go.RowKit M
variable {D : Dk}
def jbegin (D : Dk) (J : Jn) : Bool × Dk × Jn :=
 if (jsl D J).1 = false then (false,(jsl D J).2,J)
 else if (jsl D J).2.creates (fnm (J.num + 1)) = false then (false,(jsl D J).2.create (fnm (J.num + 1)),J)
 else (true,(jsl D J).2.create (fnm (J.num + 1)),⟨J.roll,J.num + 1,0,false⟩)
theorem jbegin_wf (h : D.WF) (k : Nat) (hb : D.Bud (k + 2)) (J : Jn) : (jbegin D J).2.1.WF:=by
 have h1:=jsl_wf h _ hb J
 have h2:=jsl_bud hb J
 unfold jbegin
 split
 ·exact h1
 ·split
  ·exact h1.create' h2 _
  ·exact h1.create' h2 _
theorem jbegin_bud (h : D.WF) {k : Nat} (hb : D.Bud (k + 2)) (J : Jn) : (jbegin D J).2.1.Bud k:=by
 have h1:=jsl_wf h _ hb J
 have h2:=jsl_bud hb J
 unfold jbegin
 split
 ·exact h2.mono (by omega)
 ·split
  ·exact h2.create h1 _
  ·exact h2.create h1 _
def begPh (Z : Nat->Prop) (w : World) (j d : Nat) (D D1 D2 : Dk) (J : Jn) (a b : Bool) (X : World) : Prop :=
 Side Z X j d (if b = true then D2 else if a = true then D1 else D) J/\Tr Z w X
theorem begin_any (Z : Nat->Prop) (j d : Nat) (D : Dk) (J : Jn) (w : World) (h : Side Z w j d D J) (ha : Apart Z j) (hz : Opn Z w) (hwf : D.WF) (hbu : D.Bud 2) (hn : J.num < 1000000000) :
  Calls Tryz.prog 191 #[.pointer (some ⟨j,0,none⟩)] w fun e w'=>e = .returned (.bool (jbegin D J).1)/\Side Z w' j d (jbegin D J).2.1 (jbegin D J).2.2/\Tr (Zj Z j) w w':=by
 have HL : Hid (∀ X,Side Z X j d D J->Calls Tryz.prog 117 #[.pointer (some ⟨j,0,none⟩)] X fun e w'=>e = .returned (.bool (jsl D J).1)/\Side Z w' j d (jsl D J).2 J/\Tr Z X w'):=fun X hX=>syncLast_any Z j d D J X hX ha hwf hn
 have hw1:=jsl_wf hwf _ hbu J
 have hb1:=jsl_bud hbu J
 have HF : Hid (∀ w1,Vars w1->Calls Tryz.prog 125 #[.int .i64 ((J.num : Int) + 1)] w1 fun e w'=>e = .returned (.string (fnm (J.num + 1)))/\Below w1.heap.size w1 w'):=fun w1 h1=>by
  have:=fileName_any (J.num + 1) w1 (by omega) h1
  rw [show (((J.num + 1 : Nat)) : Int) = (J.num : Int) + 1 by omega] at this
  exact this
 have HC : Hid (∀ w1,Side Z w1 j d (jsl D J).2 J->Opn Z w1->Calls Tryz.prog 193 #[.pointer (some ⟨d,0,none⟩),.string (fnm (J.num + 1))] w1 fun e w'=>e = .returned (.bool ((jsl D J).2.creates (fnm (J.num + 1))))/\DiskAt Z w' d ((jsl D J).2.create (fnm (J.num + 1)))/\Tr Z w1 w') :=
  fun w1 h1 h2=>Create_any Z d _ _ w1 h1.dk hw1.ok h2 (by have:=hb1.l;omega) (by have:=hb1.s;omega)
 have HJ : Hid (jbegin D J = if (jsl D J).1 = false then (false,(jsl D J).2,J) else if (jsl D J).2.creates (fnm (J.num + 1)) = false then (false,(jsl D J).2.create (fnm (J.num + 1)),J) else (true,(jsl D J).2.create (fnm (J.num + 1)),⟨J.roll,J.num + 1,0,false⟩)):=rfl
 obtain ⟨q,hq⟩ : ∃ q,jsl D J = q:=⟨_,rfl⟩
 rw [hq] at HL HC HJ
 obtain ⟨n,hnn⟩ : ∃ n,fnm (J.num + 1) = n:=⟨_,rfl⟩
 rw [hnn] at HF HC HJ
 obtain ⟨b,D1⟩:=q
 simp only at HL HC HJ
 obtain ⟨c,hc⟩ : ∃ c,D1.creates n = c:=⟨_,rfl⟩
 rw [hc] at HC HJ
 have n0 : (0 : Int)<=(J.num : Int):=by omega
 have n1 : (J.num : Int)<=1000000000:=by omega
 have hcw : (IntKind.i64.wrap ((J.num : Int) + 1)) = (J.num : Int) + 1:=wrap_in _ (by omega) (by omega)
 have d0 : w.drew.cell? ⟨j,0,none⟩ = some (.pointer (some ⟨d,0,none⟩)):=(h.jn.cell 0).trans rfl
 have d2 : w.drew.cell? ⟨j,2,none⟩ = some (.int .i64 J.num):=(h.jn.cell 2).trans rfl
 have h0:=h.below (Below.drew (Below.refl w.heap.size w))
 clear hq hnn hc hw1 hb1 hwf hbu hn h
 have hop : Opn Z w:=hz
 clear hz d0 d2
 cases b
 ·have HJ2 : Hid (jbegin D J = (false,D1,J)):=HJ
  clear HJ
  go_enter Tryz.func191,Tryz.ntmps191
  go_upto_region 1 with (fail)
  refine wp_region_flow 34 [] (fun _=>#[.pointer (some ⟨j,0,none⟩),undef,.bool false,.pointer (some ⟨j,0,none⟩),.bool false,.bool true,.bool true,undef,undef,undef,undef,undef,undef,undef,undef,undef,undef,undef,undef,.bool true,undef,undef,undef,undef,undef,undef,undef,undef,undef,undef,undef,undef,undef,undef])
   (fun L X=>begPh Z w j d D D1 (D1.create n) J (L 1) false X) (fun _ _=>True) (fun _ _ _=>True)
   (by kernel_rfl) (by kernel_rfl) (fun u=>rfl) (fun u k hk=>by simp at hk) (fun u v k hk=>rfl) (fun k hk=>by simp at hk) rfl ?_ (fun _ _ _ _ _ _=>trivial) ⟨h0,(Tr.refl Z w).drew⟩ (eachOp_at ?_) ?_
  ·intro u;exact flow_keep [0,1,2,20,21,22,23,24,25,26,27,28,29,30,31,32,33] (by kernel_rfl) rfl rfl (by intro k hk;simp at hk;rcases hk with rfl | rfl | rfl | rfl | rfl | rfl | rfl | rfl | rfl | rfl | rfl | rfl | rfl | rfl | rfl | rfl | rfl <;> rfl)
  ·simp only [eachOp]
   refine ⟨?_,?_,?_,?_,?_,?_,?_,?_,?_,?_,?_,?_,?_,?_,?_,?_,?_,trivial⟩
   all_goals
    intro L u X hL hup hcl hX hr
    clear hr
    have f0 : X.cell? ⟨j,0,none⟩ = some (.pointer (some ⟨d,0,none⟩)):=(hX.1.jn.cell 0).trans rfl
    have f2 : X.cell? ⟨j,2,none⟩ = some (.int .i64 J.num):=(hX.1.jn.cell 2).trans rfl
   ·refine wantedI rfl ?_;go_simp;exact ⟨by rw [andI_ne L (by decide)];exact hX,rfl⟩
   ·refine wantedI rfl ?_
    have h1 : L 1 = false:=hL
    go_simp
    have hX2:=hX
    rw [h1] at hX2
    exact (HL.out X hX2.1).mono fun e w' ⟨he,hs,ht⟩=>⟨_,he,by show begPh Z w j d D D1 (D1.create n) J (andI L 1 1) false w';rw [andI_same];exact ⟨hs,hX2.2.trans ht⟩,rfl⟩
   ·refine wantedI rfl ?_;go_simp;exact ⟨by rw [andI_ne L (by decide)];exact hX,rfl⟩
   ·refine wantedI rfl ?_;go_simp;exact ⟨by rw [andI_ne L (by decide)];exact hX,rfl⟩
   ·refine wantedN (by exact Bool.false_ne_true) ⟨by show begPh Z w j d D D1 (D1.create n) J (andI L _ 1) false X;rw [andI_ne L (by decide)];exact hX,fun q hq=>?_⟩;cases hq;exact ⟨by simp,rfl⟩
   ·refine wantedN (by exact Bool.false_ne_true) ⟨by show begPh Z w j d D D1 (D1.create n) J (andI L _ 1) false X;rw [andI_ne L (by decide)];exact hX,fun q hq=>?_⟩;cases hq;exact ⟨by simp,rfl⟩
   ·refine wantedN (by exact Bool.false_ne_true) ⟨by show begPh Z w j d D D1 (D1.create n) J (andI L _ 1) false X;rw [andI_ne L (by decide)];exact hX,fun q hq=>?_⟩;cases hq;exact ⟨by simp,rfl⟩
   ·refine wantedN (by exact Bool.false_ne_true) ⟨by show begPh Z w j d D D1 (D1.create n) J (andI L _ 1) false X;rw [andI_ne L (by decide)];exact hX,fun q hq=>?_⟩;cases hq;exact ⟨by simp,rfl⟩
   ·refine wantedN (by exact Bool.false_ne_true) ⟨by show begPh Z w j d D D1 (D1.create n) J (andI L _ 1) false X;rw [andI_ne L (by decide)];exact hX,fun q hq=>?_⟩;cases hq;exact ⟨by simp,rfl⟩
   ·refine wantedN (by exact Bool.false_ne_true) ⟨by show begPh Z w j d D D1 (D1.create n) J (andI L _ 1) false X;rw [andI_ne L (by decide)];exact hX,fun q hq=>?_⟩;cases hq;exact ⟨by simp,rfl⟩
   ·refine wantedN (by exact Bool.false_ne_true) ⟨by show begPh Z w j d D D1 (D1.create n) J (andI L _ 1) false X;rw [andI_ne L (by decide)];exact hX,fun q hq=>?_⟩;cases hq;exact ⟨by simp,rfl⟩
   ·refine wantedN (by exact Bool.false_ne_true) ⟨by show begPh Z w j d D D1 (D1.create n) J (andI L _ 1) false X;rw [andI_ne L (by decide)];exact hX,fun q hq=>?_⟩;cases hq;exact ⟨by simp,rfl⟩
   ·refine wantedN (by exact Bool.false_ne_true) ⟨by show begPh Z w j d D D1 (D1.create n) J (andI L _ 1) false X;rw [andI_ne L (by decide)];exact hX,fun q hq=>?_⟩;cases hq;exact ⟨by simp,rfl⟩
   ·refine wantedN (by exact Bool.false_ne_true) ⟨by show begPh Z w j d D D1 (D1.create n) J (andI L _ 1) false X;rw [andI_ne L (by decide)];exact hX,fun q hq=>?_⟩;cases hq;exact ⟨by simp,rfl⟩
   ·refine wantedN (by exact Bool.false_ne_true) ⟨by show begPh Z w j d D D1 (D1.create n) J (andI L _ 1) false X;rw [andI_ne L (by decide)];exact hX,fun q hq=>?_⟩;cases hq;exact ⟨by simp,rfl⟩
   ·refine wantedN (by exact Bool.false_ne_true) ⟨by show begPh Z w j d D D1 (D1.create n) J (andI L _ 1) false X;rw [andI_ne L (by decide)];exact hX,fun q hq=>?_⟩;cases hq;exact ⟨by simp,rfl⟩
   ·refine wantedI rfl ?_;go_simp;exact ⟨by rw [andI_ne L (by decide)];exact hX,rfl⟩
  ·intro L u X hL hX hr
   have h1 : L 1 = true:=hL 1 (by decide)
   rw [h1] at hX
   go_wp2
   go_ret
   exact ⟨by rw [HJ2.out];rfl,by rw [HJ2.out];exact hX.1,hX.2.zj j⟩
 ·go_enter Tryz.func191,Tryz.ntmps191
  go_upto_region 1 with (fail)
  refine wp_region_flow 34 [] (fun _=>#[.pointer (some ⟨j,0,none⟩),undef,.bool false,.pointer (some ⟨j,0,none⟩),.bool true,.bool false,.bool false,.pointer (some ⟨j,0,none⟩),.pointer (some ⟨j,0,none⟩),.pointer (some ⟨j,0,none⟩),.pointer (some ⟨d,0,none⟩),.pointer (some ⟨j,0,none⟩),.pointer (some ⟨j,0,none⟩),.pointer (some ⟨j,2,none⟩),.int .i64 J.num,.int .i64 ((J.num : Int) + 1),.string n,.bool c,.bool (!c),.bool (!c),undef,undef,undef,undef,undef,undef,undef,undef,undef,undef,undef,undef,undef,undef])
   (fun L X=>begPh Z w j d D D1 (D1.create n) J (L 1) (L 14) X) (fun _ _=>True) (fun _ _ _=>True)
   (by kernel_rfl) (by kernel_rfl) (fun u=>rfl) (fun u k hk=>by simp at hk) (fun u v k hk=>rfl) (fun k hk=>by simp at hk) rfl ?_ (fun _ _ _ _ _ _=>trivial) ⟨h0,(Tr.refl Z w).drew⟩ (eachOp_at ?_) ?_
  ·intro u;exact flow_keep [0,1,2,20,21,22,23,24,25,26,27,28,29,30,31,32,33] (by kernel_rfl) rfl rfl (by intro k hk;simp at hk;rcases hk with rfl | rfl | rfl | rfl | rfl | rfl | rfl | rfl | rfl | rfl | rfl | rfl | rfl | rfl | rfl | rfl | rfl <;> rfl)
  ·simp only [eachOp]
   refine ⟨?_,?_,?_,?_,?_,?_,?_,?_,?_,?_,?_,?_,?_,?_,?_,?_,?_,trivial⟩
   all_goals
    intro L u X hL hup hcl hX hr
    clear hr
    have f0 : X.cell? ⟨j,0,none⟩ = some (.pointer (some ⟨d,0,none⟩)):=(hX.1.jn.cell 0).trans rfl
    have f2 : X.cell? ⟨j,2,none⟩ = some (.int .i64 J.num):=(hX.1.jn.cell 2).trans rfl
   ·refine wantedI rfl ?_;go_simp;exact ⟨by rw [andI_ne L (by decide),andI_ne L (by decide)];exact hX,rfl⟩
   ·refine wantedI rfl ?_
    have h1 : L 1 = false:=hL
    have h14 : L 14 = false:=by
     cases h : L 14
     ·rfl
     ·have:=hcl 14 1 h (by kernel_rfl)
      rw [h1] at this;cases this
    go_simp
    have hX2:=hX
    rw [h1,h14] at hX2
    exact (HL.out X hX2.1).mono fun e w' ⟨he,hs,ht⟩=>⟨_,he,by show begPh Z w j d D D1 (D1.create n) J (andI L 1 1) (andI L 1 14) w';rw [andI_same,andI_ne L (by decide),h14];exact ⟨hs,hX2.2.trans ht⟩,rfl⟩
   ·refine wantedI rfl ?_;go_simp;exact ⟨by rw [andI_ne L (by decide),andI_ne L (by decide)];exact hX,rfl⟩
   ·refine wantedI rfl ?_;go_simp;exact ⟨by rw [andI_ne L (by decide),andI_ne L (by decide)];exact hX,rfl⟩
   ·refine wantedI rfl ?_;go_simp;exact ⟨by rw [andI_ne L (by decide),andI_ne L (by decide)];exact hX,rfl⟩
   ·refine wantedI rfl ?_;go_simp;exact ⟨by rw [andI_ne L (by decide),andI_ne L (by decide)];exact hX,rfl⟩
   ·refine wantedI rfl ?_;go_simp;exact ⟨by rw [andI_ne L (by decide),andI_ne L (by decide)];exact hX,rfl⟩
   ·refine wantedI rfl ?_;go_simp;exact ⟨by rw [andI_ne L (by decide),andI_ne L (by decide)];exact hX,rfl⟩
   ·refine wantedI rfl ?_;go_simp;exact ⟨by rw [andI_ne L (by decide),andI_ne L (by decide)];exact hX,rfl⟩
   ·refine wantedI rfl ?_;go_simp;exact ⟨by rw [andI_ne L (by decide),andI_ne L (by decide)];exact hX,rfl⟩
   ·refine wantedI rfl ?_;go_simp;exact ⟨by rw [andI_ne L (by decide),andI_ne L (by decide)];exact hX,rfl⟩
   ·refine wantedI rfl ?_;go_simp;exact ⟨by rw [andI_ne L (by decide),andI_ne L (by decide)];exact hX,rfl⟩
   ·refine wantedI rfl ?_;go_simp;exact ⟨by rw [andI_ne L (by decide),andI_ne L (by decide)];exact hX,rfl⟩
   ·refine wantedI rfl ?_;go_simp
    exact (HF.out X hX.1.vs).mono fun e w' ⟨he,hb⟩=>⟨_,he,by show begPh Z w j d D D1 (D1.create n) J (andI L 13 1) (andI L 13 14) w';rw [andI_ne L (by decide),andI_ne L (by decide)];exact ⟨hX.1.below hb,hX.2.trans (below_tr hb Z)⟩,rfl⟩
   ·refine wantedI rfl ?_
    have h14' : L 14 = false:=hL
    have h1' : L 1 = true:=hup 1 (by kernel_rfl)
    go_simp
    have hX2:=hX
    rw [h14',h1'] at hX2
    exact (HC.out X hX2.1 (hop.size hX2.2.size)).mono fun e w' ⟨he,hs,ht⟩=>⟨_,he,by show begPh Z w j d D D1 (D1.create n) J (andI L 14 1) (andI L 14 14) w';rw [andI_same,andI_ne L (by decide),h1'];exact ⟨hX2.1.disk ha ht hs,hX2.2.trans ht⟩,rfl⟩
   ·refine wantedI rfl ?_;go_simp;exact ⟨by rw [andI_ne L (by decide),andI_ne L (by decide)];exact hX,rfl⟩
   ·refine wantedI rfl ?_;go_simp;exact ⟨by rw [andI_ne L (by decide),andI_ne L (by decide)];exact hX,rfl⟩
  ·intro L u X hL hX hr
   have h1 : L 1 = true:=hL 1 (by decide)
   have h14 : L 14 = true:=hL 14 (by decide)
   rw [h1,h14] at hX
   cases c
   ·have HJ2 : Hid (jbegin D J = (false,D1.create n,J)):=HJ
    clear HJ
    go_wp2
    go_ret
    exact ⟨by rw [HJ2.out];rfl,by rw [HJ2.out];exact hX.1,hX.2.zj j⟩
   ·have HJ2 : Hid (jbegin D J = (true,D1.create n,⟨J.roll,J.num + 1,0,false⟩)):=HJ
    clear HJ
    have HX : Hid (Side Z X j d (D1.create n) J/\Tr Z w X):=hX
    have f2 : X.cell? ⟨j,2,none⟩ = some (.int .i64 J.num):=(hX.1.jn.cell 2).trans rfl
    have f3 : X.cell? ⟨j,3,none⟩ = some (.int .i64 J.size):=(hX.1.jn.cell 3).trans rfl
    have f4 : X.cell? ⟨j,4,none⟩ = some (.bool J.cut):=(hX.1.jn.cell 4).trans rfl
    have fz : ∀ o,X.frozen? ⟨j,o,none⟩ = false:=hX.1.jn.frozen
    clear hX HC HF HL
    go_wp2
    go_ret
    have h2:=HX.out.1.set ha 2 (.int .i64 ((J.num + 1 : Nat) : Int)) (HX.out.1.jn.setNum (J.num + 1))
    have h3:=h2.set ha 3 (.int .i64 ((0 : Nat) : Int)) (h2.jn.setSize 0)
    have h4:=h3.set ha 4 (.bool false) (h3.jn.setCut false)
    exact ⟨by rw [HJ2.out];rfl,by rw [HJ2.out];exact h4,(((HX.out.2.zj j).setJ 2 _).setJ 3 _).setJ 4 _⟩
end Go.Proofs.YtilkdeghknjjhaaGreatDoor
namespace Go.Proofs.YtilkdeghknjjhaaGreatDoor
open Go.RowKit M
variable {w w' : World} {z u y v s0 s1 x : Value} {B N n cap size p : Nat} {a : Option Addr} {ys xs L M : List Value} {Z : Nat->Prop} {mk : ByteArray}
theorem AllX.grownOther {r : Option Nat} {m : ByteArray} (h : AllX w z m) (hg : w.grownBy w' r) (hr : ∀ k,r = some k->∃ cs t,w.heap[k]? = some (.cells cs t (0,0))/\t ≠ 9) : AllX w' z m:=by
 obtain ⟨a,n,cap,hv,hn,hc⟩:=h
 refine ⟨a,n,cap,hv,hn,fun h0=>?_⟩
 obtain ⟨g,cs,ha,hgg,hc⟩:=hc h0
 refine ⟨g,cs,ha,?_,hc⟩
 rw [hg.block g (Array.getElem?_eq_some_iff.1 hgg).1 (fun e=>by
  obtain ⟨cs2,t,h2,h3⟩:=hr g e.symm
  rw [hgg] at h2;simp at h2;exact h3 h2.2.symm)]
 exact hgg
theorem AllX.setOther {m : ByteArray} {k o : Nat} {old : Array Value} {t : TypeId} (h : AllX w z m) (hk : w.heap[k]? = some (.cells old t (0,0))) (ht : t ≠ 9) : AllX (w.setCell ⟨k,o,none⟩ u) z m:=by
 obtain ⟨a,n,cap,hv,hn,hc⟩:=h
 refine ⟨a,n,cap,hv,hn,fun h0=>?_⟩
 obtain ⟨g,cs,ha,hgg,hc⟩:=hc h0
 refine ⟨g,cs,ha,?_,hc⟩
 rw [Below.heap_setCell _ _ _ _ (fun e : g = k=>by subst e;rw [hk] at hgg;simp at hgg;exact ht hgg.2)]
 exact hgg
theorem AllX.grownNe {m : ByteArray} (h : AllX w z m) (hg : w.grownBy w' y.ownBlock) (hne : z.ownBlock = none\/z.ownBlock ≠ y.ownBlock) : AllX w' z m:=by
 obtain ⟨a,n,cap,hv,hn,hc⟩:=h
 refine ⟨a,n,cap,hv,hn,fun h0=>?_⟩
 obtain ⟨g,cs,ha,hgg,hc⟩:=hc h0
 refine ⟨g,cs,ha,?_,hc⟩
 subst hv
 subst ha
 rw [hg.block g (Array.getElem?_eq_some_iff.1 hgg).1 (by rcases hne with h | h;(simp [Value.ownBlock] at h);simpa [Value.ownBlock] using h)]
 exact hgg
theorem AllX.own {m : ByteArray} (h : w.ownsRow B 9 1 y N ys) (hm : ∀ j,j < N->ys[j]? = some (.string m)) (hb : y.ownBlock = (Value.slice a n cap).ownBlock) (ha : ∀ d,a = some d->d.off = 0/\d.spot = none) (hn : n<=N) (hN : N<=1000000000) : AllX w (.slice a n cap) m:=by
 refine ⟨a,n,cap,rfl,by omega,fun h0=>?_⟩
 rcases h.2 with ⟨rfl,h1⟩ | ⟨g,c,cur,rfl,_,hg,hnc,_,hsz,htk⟩
 ·omega
 ·cases a with
  | none=>simp [Value.ownBlock] at hb
  | some d =>
   obtain ⟨h1,h2⟩:=ha d rfl
   simp [Value.ownBlock] at hb
   refine ⟨g,cur,by cases d;simp_all,hg,fun j hj=>?_⟩
   have:=hm j (by omega)
   rw [<- htk,List.getElem?_take_of_lt (by omega)] at this
   simpa using this
theorem own_heap {e : TypeId} (h : w.ownsRow B e size v n xs) : ∀ k,v.ownBlock = some k->∃ cs,w.heap[k]? = some (.cells cs e (0,0)):=by
 intro k hk
 rcases h.2 with ⟨rfl,_⟩ | ⟨g,c,cur,rfl,_,hg,_⟩
 ·simp [Value.ownBlock] at hk
 ·simp [Value.ownBlock] at hk
  subst hk
  exact ⟨cur,hg⟩
theorem WorldIn.mono {Y : Nat->Prop} (h : WorldIn Z w p s0 s1 L M v u) (hs : ∀ k,Z k->Y k) : WorldIn Y w p s0 s1 L M v u :=
 ⟨hs _ h.zp,h.hp,h.rl,h.rm,fun i hi=>⟨(h.al i hi).1,fun k hk=>hs k ((h.al i hi).2 k hk)⟩,fun i hi=>⟨(h.am i hi).1,fun k hk=>hs k ((h.am i hi).2 k hk)⟩,fun k hk=>hs k (h.zl k hk),fun k hk=>hs k (h.zm k hk),h.ap,h.bl,h.bm⟩
theorem vl_append_lt (L : List Value) (x : Value) (i : Nat) (h : i < L.length) : vl (L ++ [x]) i = vl L i:=by
 rw [vl_get _ _ (by simp;omega),vl_get _ _ h,List.getElem_append_left h]
theorem vl_append_eq (L : List Value) (x : Value) : vl (L ++ [x]) L.length = x:=by
 rw [vl_get _ _ (by simp)];simp
theorem ap_sym {e : TypeId} (hu : w.ownsRow B e size u n xs) (h : v.ownBlock = none\/v.ownBlock ≠ u.ownBlock) : u.ownBlock = none\/u.ownBlock ≠ v.ownBlock:=by
 rcases hu.2 with ⟨hu,_⟩ | ⟨g,c,cur,hu,_⟩
 ·exact .inl (by rw [hu];rfl)
 ·refine .inr fun hh=>?_
  rcases h with e | e
  ·rw [e,hu] at hh;simp [Value.ownBlock] at hh
  ·exact e hh.symm
theorem WorldIn.growL {v' : Value} {o : Obj} (h : WorldIn Z w p s0 s1 L M v u) (hz : ∀ k,w.heap.size<=k->Z k) (hx : AllX w x (markF ((L.length : Int) + 1))) (hxz : InZ Z x) (hxb : ∀ k,x.ownBlock = some k->k < w.heap.size)
  (hg : (w.alloc o).grownBy w' v.ownBlock) (hown : w'.ownsRow 0 34 1 v' (L.length + 1) (L ++ [x])) (hv : v'.ownBlock = v.ownBlock\/∀ k,v'.ownBlock = some k->(w.alloc o).heap.size<=k) :
  WorldIn Z (w'.setCell ⟨p,2,none⟩ v') p s0 s1 (L ++ [x]) M v' u/\w'.heap[p]? = some (.cells #[s0,s1,v,u] 74 (0,0)):=by
 have hbA:=(Below.refl w.heap.size w).alloc (Nat.le_refl _) o
 have hA:=h.below hbA
 have hp' : w'.heap[p]? = some (.cells #[s0,s1,v,u] 74 (0,0)):=by
  rw [hg.block p (Array.getElem?_eq_some_iff.1 hA.hp).1 (own_not hA.rl hA.hp (by decide))]
  exact hA.hp
 have hty : ∀ k,v.ownBlock = some k->∃ cs t,(w.alloc o).heap[k]? = some (.cells cs t (0,0))/\t ≠ 9:=fun k hk=>by
  obtain ⟨cs,hc⟩:=own_heap hA.rl k hk
  exact ⟨cs,_,hc,by decide⟩
 have hsz : w.heap.size<=(w'.setCell ⟨p,2,none⟩ v').heap.size:=by have:=hg.size;simp at this;simp [World.setCell];omega
 have keep : ∀ z m,AllX w z m->AllX (w'.setCell ⟨p,2,none⟩ v') z m:=fun z m hh=>((hh.below hbA).grownOther hg hty).setOther hp' (by decide)
 refine ⟨⟨h.zp,by rw [heap_setCell_self hp'];rfl,?_,own_setCell (own_grown hA.rm hg ?_) hp' (by decide),?_,fun i hi=>⟨keep _ _ (h.am i hi).1,(h.am i hi).2⟩,?_,h.zm,?_,fun i hi k hk=>Nat.lt_of_lt_of_le ?_ hsz,fun i hi k hk=>Nat.lt_of_lt_of_le (h.bm i hi k hk) hsz⟩,hp'⟩
 rotate_right
 ·rcases Nat.lt_or_ge i L.length with hlt | hge
  ·rw [vl_append_lt L x i hlt] at hk
   exact h.bl i hlt k hk
  ·have : i = L.length:=by simp at hi;omega
   subst this
   rw [vl_append_eq] at hk
   exact hxb k hk
 ·rw [List.length_append];exact own_setCell hown hp' (by decide)
 ·exact ap_sym hA.rm h.ap
 ·intro i hi
  rcases Nat.lt_or_ge i L.length with hlt | hge
  ·rw [vl_append_lt L x i hlt]
   exact ⟨keep _ _ (h.al i hlt).1,(h.al i hlt).2⟩
  ·have : i = L.length:=by simp at hi;omega
   subst this
   rw [vl_append_eq]
   exact ⟨keep _ _ hx,hxz⟩
 ·intro k hk
  rcases hv with e | e
  ·exact h.zl k (e ▸ hk)
  ·exact hz k (by have:=e k hk;simp at this;omega)
 ·rcases hv with e | e
  ·rw [e];exact h.ap
  ·rcases hown.2 with ⟨rfl,hl⟩ | ⟨g,c,cur,rfl,_⟩
   ·omega
   ·refine .inr fun hh=>?_
    have h1:=e g rfl
    have h2:=(h.rm.lt g (hh.symm.trans rfl)).2
    simp at h1;omega
theorem WorldIn.growM {u' : Value} {o : Obj} (h : WorldIn Z w p s0 s1 L M v u) (hz : ∀ k,w.heap.size<=k->Z k) (hx : AllX w x (markF ((M.length : Int) / 3 + 1))) (hxz : InZ Z x) (hxb : ∀ k,x.ownBlock = some k->k < w.heap.size)
  (hg : (w.alloc o).grownBy w' u.ownBlock) (hown : w'.ownsRow 0 34 1 u' (M.length + 1) (M ++ [x])) (hv : u'.ownBlock = u.ownBlock\/∀ k,u'.ownBlock = some k->(w.alloc o).heap.size<=k) :
  WorldIn Z (w'.setCell ⟨p,3,none⟩ u') p s0 s1 L (M ++ [x]) v u'/\w'.heap[p]? = some (.cells #[s0,s1,v,u] 74 (0,0))/\∀ z m,AllX w z m->AllX (w'.setCell ⟨p,3,none⟩ u') z m:=by
 have hbA:=(Below.refl w.heap.size w).alloc (Nat.le_refl _) o
 have hA:=h.below hbA
 have hp' : w'.heap[p]? = some (.cells #[s0,s1,v,u] 74 (0,0)):=by
  rw [hg.block p (Array.getElem?_eq_some_iff.1 hA.hp).1 (own_not hA.rm hA.hp (by decide))]
  exact hA.hp
 have hty : ∀ k,u.ownBlock = some k->∃ cs t,(w.alloc o).heap[k]? = some (.cells cs t (0,0))/\t ≠ 9:=fun k hk=>by
  obtain ⟨cs,hc⟩:=own_heap hA.rm k hk
  exact ⟨cs,_,hc,by decide⟩
 have hsz : w.heap.size<=(w'.setCell ⟨p,3,none⟩ u').heap.size:=by have:=hg.size;simp at this;simp [World.setCell];omega
 have keep : ∀ z m,AllX w z m->AllX (w'.setCell ⟨p,3,none⟩ u') z m:=fun z m hh=>((hh.below hbA).grownOther hg hty).setOther hp' (by decide)
 refine ⟨⟨h.zp,by rw [heap_setCell_self hp'];rfl,own_setCell (own_grown hA.rl hg h.ap) hp' (by decide),?_,fun i hi=>⟨keep _ _ (h.al i hi).1,(h.al i hi).2⟩,?_,h.zl,?_,?_,fun i hi k hk=>Nat.lt_of_lt_of_le (h.bl i hi k hk) hsz,fun i hi k hk=>Nat.lt_of_lt_of_le ?_ hsz⟩,hp',keep⟩
 rotate_right
 ·rcases Nat.lt_or_ge i M.length with hlt | hge
  ·rw [vl_append_lt M x i hlt] at hk
   exact h.bm i hlt k hk
  ·have : i = M.length:=by simp at hi;omega
   subst this
   rw [vl_append_eq] at hk
   exact hxb k hk
 ·rw [List.length_append];exact own_setCell hown hp' (by decide)
 ·intro i hi
  rcases Nat.lt_or_ge i M.length with hlt | hge
  ·rw [vl_append_lt M x i hlt]
   exact ⟨keep _ _ (h.am i hlt).1,(h.am i hlt).2⟩
  ·have : i = M.length:=by simp at hi;omega
   subst this
   rw [vl_append_eq]
   exact ⟨keep _ _ hx,hxz⟩
 ·intro k hk
  rcases hv with e | e
  ·exact h.zm k (e ▸ hk)
  ·exact hz k (by have:=e k hk;simp at this;omega)
 ·rcases hv with e | e
  ·rw [e];exact h.ap
  ·rcases h.rl.2 with ⟨hv0,_⟩ | ⟨g,c,cur,hv0,_⟩
   ·exact .inl (by rw [hv0];rfl)
   ·refine .inr fun hh=>?_
    have h2:=(h.rl.lt g (by rw [hv0];rfl)).2
    have h1:=e g (hh.symm.trans (by rw [hv0];rfl))
    simp at h1;omega
theorem own_off {e m : Nat} (h : w.ownsRow B e size (.slice a n cap) m xs) : ∀ d,a = some d->d.off = 0/\d.spot = none:=by
 intro d hd
 rcases h.2 with ⟨hv,_⟩ | ⟨g,c,cur,hv,_⟩
 ·injection hv with h1 _ _;rw [hd] at h1;simp at h1
 ·injection hv with h1 _ _;rw [hd] at h1;simp at h1;subst h1;exact ⟨rfl,rfl⟩
def Sep (z : Value) (m mk : ByteArray) (y : Value) (N : Nat) : Prop :=
 ∃ a n cap,z = .slice a n cap/\(n = 0\/z.ownBlock ≠ y.ownBlock\/(m = mk/\n<=N/\∀ d,a = some d->d.off = 0/\d.spot = none))
theorem Sep.step {m : ByteArray} (h : AllX w z m) (s : Sep z m mk y N) (hk : w'.ownsRow B 9 1 y N ys) (hm : ∀ j,j < N->ys[j]? = some (.string mk)) (hN : N<=1000000000) (hg : w.grownBy w' y.ownBlock) : AllX w' z m:=by
 obtain ⟨a,n,cap,rfl,h1⟩:=s
 by_cases hb : (Value.slice a n cap).ownBlock = y.ownBlock
 ·rcases h1 with h1 | h1 | ⟨rfl,h2,h3⟩
  ·subst h1;exact ⟨a,0,cap,rfl,by omega,fun h=>absurd h (by omega)⟩
  ·exact absurd hb h1
  ·exact AllX.own hk hm hb.symm h3 h2 hN
 ·exact h.grownNe hg (.inr hb)
theorem Sep.next {y' : Value} {m : ByteArray} (s : Sep z m mk y N) (h : AllX w z m) (hv : y'.ownBlock = y.ownBlock\/∀ k,y'.ownBlock = some k->w.heap.size<=k) : Sep z m mk y' (N + 1):=by
 obtain ⟨a,n,cap,rfl,h1⟩:=s
 refine ⟨a,n,cap,rfl,?_⟩
 rcases h1 with h1 | h1 | ⟨h1,h2,h3⟩
 ·exact .inl h1
 ·rcases hv with e | e
  ·exact .inr (.inl (by rw [e];exact h1))
  ·by_cases hn : n = 0
   ·exact .inl hn
   ·refine .inr (.inl fun hh=>?_)
    obtain ⟨a2,n2,cap2,hv2,_,hc⟩:=h
    injection hv2 with e1 e2 e3
    subst e1;subst e2
    obtain ⟨g,cs,rfl,hg,_⟩:=hc (by omega)
    have h5:=e g (hh.symm.trans rfl)
    have h6:=(Array.getElem?_eq_some_iff.1 hg).1
    omega
 ·exact .inr (.inr ⟨h1,by omega,h3⟩)
theorem WorldIn.app {o : Obj} (h : WorldIn Z w p s0 s1 L M v u) (hsl : ∀ i,i < L.length->Sep (vl L i) (markF ((i : Int) + 1)) mk y N) (hsm : ∀ i,i < M.length->Sep (vl M i) (markF ((i : Int) / 3 + 1)) mk y N)
  (hg : (w.alloc o).grownBy w' y.ownBlock) (hy : w.ownsRow B 9 1 y N ys) (hk : w'.ownsRow B 9 1 y N ys) (hm : ∀ j,j < N->ys[j]? = some (.string mk)) (hN : N<=1000000000) : WorldIn Z w' p s0 s1 L M v u:=by
 have hbA:=(Below.refl w.heap.size w).alloc (Nat.le_refl _) o
 have hA:=h.below hbA
 have hyA:=own_below hy hbA
 refine ⟨h.zp,?_,own_grown hA.rl hg (own_apart' hA.rl hyA (by decide)),own_grown hA.rm hg (own_apart' hA.rm hyA (by decide)),fun i hi=>⟨Sep.step (hA.al i hi).1 (hsl i hi) hk hm hN hg,(h.al i hi).2⟩,fun i hi=>⟨Sep.step (hA.am i hi).1 (hsm i hi) hk hm hN hg,(h.am i hi).2⟩,h.zl,h.zm,h.ap,fun i hi k hk=>Nat.lt_of_lt_of_le (h.bl i hi k hk) (by have:=hg.size;simp at this;omega),fun i hi k hk=>Nat.lt_of_lt_of_le (h.bm i hi k hk) (by have:=hg.size;simp at this;omega)⟩
 rw [hg.block p (Array.getElem?_eq_some_iff.1 hA.hp).1 (own_not hyA hA.hp (by decide))]
 exact hA.hp
end Go.Proofs.YtilkdeghknjjhaaGreatDoor
namespace Go.Proofs.YtilkdeghknjjhaaGreatDoor
open Go.RowKit
variable {w : World}
section
variable {P : Program}
theorem grown_refl (w : World) (r : Option Nat) : w.grownBy w r:=⟨rfl,rfl,rfl,Nat.le_refl _,fun _ _ _=>rfl⟩
theorem own_le {B e size n : Nat} {v : Value} {xs : List Value} (h : w.ownsRow B e size v n xs) : ∃ a c,v = .slice a n c/\n<=c:=by
 rcases h.2 with ⟨rfl,rfl⟩ | ⟨g,cap,cur,rfl,_,_,hnc,_⟩
 ·exact ⟨none,0,rfl,Nat.le_refl _⟩
 ·exact ⟨_,cap,rfl,hnc⟩
theorem run_append_rows (w : World) (base B : Nat) (t ty e : TypeId) (i : TypeInfo) (z : Value) (size bytes : Nat) (ht : P.underlying t = some (.slice e)) (hi : P.info? e = some i) (hz : i.zero = some z)
  (hsize : i.size = size) (hby : i.bytes = bytes) (hzs : z.cells.size = size) (hsz : 0 < size) (v : Value) (n : Nat) (xs : List Value) (hown : w.ownsRow base e size v n xs) (u : Value) (m : Nat) (ys : List Value) (hu : w.ownsRow B e size u m ys) (h1 : ∀ u ∈ ys,u.oneCell' = true)
  (h63 : n + m<=100000000000) (hbytes : (n + m) * bytes<=140737488355328) (hbase : base<=w.heap.size) :
  ∃ v' w',(Builtin.append_ #[t,t] ty #[v,u]).run P w = .ok v' w'/\w'.ownsRow base e size v' (n + m) (xs ++ ys)/\w.grownBy w' v.ownBlock/\(v'.ownBlock = v.ownBlock\/∀ k,v'.ownBlock = some k->w.heap.size<=k):=by
 by_cases hm : m = 0
 ·subst hm
  have hy : ys = []:=List.eq_nil_of_length_eq_zero (by have:=hu.1;omega)
  subst hy
  obtain ⟨a,c,hv,hle⟩:=own_le hown
  obtain ⟨a2,c2,hu2,hle2⟩:=own_le hu
  refine ⟨v,w,?_,by simpa using hown,grown_refl w _,.inl rfl⟩
  subst hv hu2
  cases a <;> cases a2 <;> simp [Builtin.append_,run_underlying ht,sizeOf,typeInfo,hi,Builtin.lenOf,Builtin.firstCells,loadCells,loadCellsFrom,storeCells,hle]
 ·rcases hu.2 with ⟨_,h0⟩ | ⟨g,cap,cur,rfl,hb,hg,hnc,hcm,hcs,htk⟩
  ·exact absurd h0 hm
  ·have hnews : ∀ j y,ys[j]? = some y->w.cell? ((⟨g,0,none⟩ : Addr).add j) = some y:=by
    intro j y hj
    have hj1 : j < ys.length:=(List.getElem?_eq_some_iff.1 hj).1
    have hl:=hu.1
    rw [Addr.add_lit,cell_of_row _ _ _ _ _ _ hg]
    rw [<- htk,List.getElem?_take_of_lt (by omega)] at hj
    simpa using hj
   obtain ⟨v',w',hr,h2,_,h4,h5⟩:=append_keeps (P:=P) w base t ty e i z size bytes ht hi hz hsize hby hzs hsz v n xs hown ⟨g,0,none⟩ m cap ys hu.1 (by omega) hnews h1 h63 hbytes hbase
   exact ⟨v',w',hr,h2,h4,h5⟩
theorem step_append_rows {ops : Array Oper} {o : Oper} {a : Act} {K : Act->World->Prop} {Q : Exit->Act->World->Prop} {E : Prop} (hgd : o.guard = none) (s x : Operand) (t : TypeId)
  (ho : o.op = .call { callee:=.builtin .append,args:=#[s,x],argTypes:=#[t,t] })
  (base B : Nat) (e : TypeId) (i : TypeInfo) (z : Value) (size bytes : Nat) (ht : P.underlying t = some (.slice e)) (hi : P.info? e = some i) (hz : i.zero = some z)
  (hsize : i.size = size) (hby : i.bytes = bytes) (hzs : z.cells.size = size) (hsz : 0 < size)
  (v : Value) (n : Nat) (xs : List Value) (hs : a.eval s = v) (hown : w.ownsRow base e size v n xs) (u : Value) (m : Nat) (ys : List Value) (hx : a.eval x = u) (hu : w.ownsRow B e size u m ys) (h1 : ∀ u ∈ ys,u.oneCell' = true)
  (h63 : n + m<=100000000000) (hbytes : (n + m) * bytes<=140737488355328) (hbase : base<=w.heap.size)
  (h : ∀ v' w',w'.ownsRow base e size v' (n + m) (xs ++ ys)->w.grownBy w' v.ownBlock->(v'.ownBlock = v.ownBlock\/∀ k,v'.ownBlock = some k->w.heap.size<=k)->K (a.put o.dst v') w') :
  if Region.wanted o (yielded ops a.tmps) = true then Oper.wp P o a w K Q else E:=by
 have hw : Region.wanted o (yielded ops a.tmps) = true:=by simp [Region.wanted,hgd]
 rw [if_pos hw]
 obtain ⟨v',w',hrun,r1,r2,r3⟩:=run_append_rows (P:=P) w base B t o.type e i z size bytes ht hi hz hsize hby hzs hsz v n xs hown u m ys hu h1 h63 hbytes hbase
 unfold Oper.wp
 simp [execOp,ho,resolve,invoke,builtin,hs,hx,hrun,Result.andThen]
 exact h v' w' r1 r2 r3
end
end Go.Proofs.YtilkdeghknjjhaaGreatDoor
