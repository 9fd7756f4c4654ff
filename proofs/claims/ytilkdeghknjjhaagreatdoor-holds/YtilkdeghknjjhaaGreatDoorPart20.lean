/- A part of the proof. -/
import Derived.Test.YtilkdeghknjjhaaGreatDoorPart18
set_option maxRecDepth 20000
set_option maxHeartbeats 3200000
set_option linter.unusedVariables false
namespace Go.Proofs.YtilkdeghknjjhaaGreatDoor
open Go.RowKit M
variable {sc c C C' : List (Int × Int)} {n k e' : Int} {s : ByteArray} {w w' : World}
def UpR (sc c : List (Int × Int)) (l : List Sb) (n k : Int) (s : ByteArray) (C : List (Int × Int)) (L : List Sb) (e : Int) : Prop :=
 (¬ UpOK sc c l n k s/\C = []/\L = []/\e = 1) \/
 (UpOK sc c l n k s/\6 < (un c l).length + 1/\C = []/\L = []/\e = 5) \/
 (UpOK sc c l n k s/\(un c l).length + 1<=6/\8 < (jn [sc,c,[(n,k)]]).length/\C = []/\L = []/\e = 5) \/
 (UpOK sc c l n k s/\(un c l).length + 1<=6/\(jn [sc,c,[(n,k)]]).length<=8/\∃ p,Place (un c l) ⟨n,k,s⟩ p/\C = jn [sc,c,[(n,k)]]/\L = put (un c l) p ⟨n,k,s⟩/\e = 0)
theorem UpR.fn {l : List Sb} {L L' : List Sb} {e : Int} (h : UpR sc c l n k s C L e) (g : UpR sc c l n k s C' L' e') : C' = C/\L' = L/\e' = e:=by
 rcases h with ⟨h1,rfl,rfl,rfl⟩ | ⟨h1,h2,rfl,rfl,rfl⟩ | ⟨h1,h2,h3,rfl,rfl,rfl⟩ | ⟨h1,h2,h3,p,hp,rfl,rfl,rfl⟩ <;>
  rcases g with ⟨g1,rfl,rfl,rfl⟩ | ⟨g1,g2,rfl,rfl,rfl⟩ | ⟨g1,g2,g3,rfl,rfl,rfl⟩ | ⟨g1,g2,g3,q,hq,rfl,rfl,rfl⟩ <;> first
  | exact ⟨rfl,rfl,rfl⟩
  | exact absurd h1 g1
  | exact absurd g1 h1
  | omega
  | (rw [place_fn (un_pw (UpS.pw h1.1.2.2)) hp hq];exact ⟨rfl,rfl,rfl⟩)
theorem UpR.len {l : List Sb} {L : List Sb} {e : Int} (h : UpR sc c l n k s C L e) : C.length<=8/\L.length<=6:=by
 rcases h with ⟨h1,rfl,rfl,rfl⟩ | ⟨h1,h2,rfl,rfl,rfl⟩ | ⟨h1,h2,h3,rfl,rfl,rfl⟩ | ⟨h1,h2,h3,p,hp,rfl,rfl,rfl⟩
 ·simp
 ·simp
 ·simp
 ·exact ⟨h3,by rw [put_len _ _ _ hp.1];exact h2⟩
def SetEnd (R : List (Int × Int)->List Sb->Int->Prop) (w : World) (e : Ending) (w' : World) : Prop :=
 ∃ r1 r2 C L c,e = .returned (.tuple #[.agg #[r1,r2],.int .i64 c])/\R C L c/\w'.ownsRow w.heap.size 183 2 r1 C.length (cellsE C)/\w'.ownsRow w.heap.size 122 3 r2 L.length (cellsS L)/\Below w.heap.size w w'
theorem UpdEnd.set {l : List Sb} {e : Ending} (h : UpdEnd w sc c l n k s e w') : SetEnd (UpR sc c l n k s) w e w':=by
 obtain ⟨hb,h⟩:=h
 rcases h with ⟨h1,he⟩ | ⟨h1,h2,he⟩ | ⟨h1,h2,h3,he⟩ | ⟨h1,h2,h3,p,hp,r1,r2,he,o1,o2⟩
 ·exact ⟨_,_,[],[],1,he,.inl ⟨h1,rfl,rfl,rfl⟩,World.ownsRow_nil _ _ _ _,World.ownsRow_nil _ _ _ _,hb⟩
 ·exact ⟨_,_,[],[],5,he,.inr (.inl ⟨h1,h2,rfl,rfl,rfl⟩),World.ownsRow_nil _ _ _ _,World.ownsRow_nil _ _ _ _,hb⟩
 ·exact ⟨_,_,[],[],5,he,.inr (.inr (.inl ⟨h1,h2,h3,rfl,rfl,rfl⟩)),World.ownsRow_nil _ _ _ _,World.ownsRow_nil _ _ _ _,hb⟩
 ·exact ⟨_,_,_,_,0,he,.inr (.inr (.inr ⟨h1,h2,h3,p,hp,rfl,rfl,rfl⟩)),o1,o2,hb⟩
theorem Update_u (vs v vc : Value) (sc c : List (Int × Int)) (l : List Sb) (n k : Int) (s : ByteArray) (w : World) (hrs : Rd w vs sc) (hrd : RdS w v l) (hrc : Rd w vc c) :
  Calls Tryz.prog 155 #[.agg #[vs,v],vc,.int .i64 n,.int .i64 k,.string s] w fun e w'=>SetEnd (UpR sc c l n k s) w e w' :=
 (Update_any vs v vc sc c l n k s w hrs hrd hrc).mono fun e w' h=>h.set
theorem refUpdate_u (vs v vc : Value) (sc c : List (Int × Int)) (l : List Sb) (n k : Int) (s : ByteArray) (w : World) (hrs : Rd w vs sc) (hrd : RdS w v l) (hrc : Rd w vc c) :
  Calls Tryz.prog 173 #[.agg #[vs,v],vc,.int .i64 n,.int .i64 k,.string s] w fun e w'=>SetEnd (UpR sc c l n k s) w e w' :=
 (refUpdate_any vs v vc sc c l n k s w hrs hrd hrc).mono fun e w' h=>h.set
def DsR (sc c : List (Int × Int)) (l : List Sb) (C : List (Int × Int)) (L : List Sb) (e : Int) : Prop :=
 (¬ (SetOK sc l/\Clk c)/\C = []/\L = []/\e = 1) \/
 (SetOK sc l/\Clk c/\8 < (jn [sc,c]).length/\C = []/\L = []/\e = 5) \/
 (SetOK sc l/\Clk c/\(jn [sc,c]).length<=8/\C = jn [sc,c]/\L = un c l/\e = 0)
theorem DsR.fn {l : List Sb} {L L' : List Sb} {e : Int} (h : DsR sc c l C L e) (g : DsR sc c l C' L' e') : C' = C/\L' = L/\e' = e:=by
 rcases h with ⟨h1,rfl,rfl,rfl⟩ | ⟨h1,h2,h3,rfl,rfl,rfl⟩ | ⟨h1,h2,h3,rfl,rfl,rfl⟩ <;>
  rcases g with ⟨g1,rfl,rfl,rfl⟩ | ⟨g1,g2,g3,rfl,rfl,rfl⟩ | ⟨g1,g2,g3,rfl,rfl,rfl⟩ <;> first
  | exact ⟨rfl,rfl,rfl⟩
  | exact absurd (And.intro h1 h2) g1
  | exact absurd (And.intro g1 g2) h1
  | omega
theorem DsR.len {l : List Sb} {L : List Sb} {e : Int} (h : DsR sc c l C L e) : C.length<=8/\L.length<=6:=by
 rcases h with ⟨h1,rfl,rfl,rfl⟩ | ⟨h1,h2,h3,rfl,rfl,rfl⟩ | ⟨h1,h2,h3,rfl,rfl,rfl⟩
 ·simp
 ·simp
 ·refine ⟨h3,Nat.le_trans ?_ h1.2.1⟩
  have:=un_len c l l.length
  rwa [List.take_length] at this
theorem DisEnd.set {l : List Sb} {e : Ending} (h : DisEnd w sc c l e w') : SetEnd (DsR sc c l) w e w':=by
 obtain ⟨hb,h⟩:=h
 rcases h with ⟨h1,he⟩ | ⟨h1,h2,h3,he⟩ | ⟨h1,h2,h3,r1,r2,he,o1,o2⟩
 ·exact ⟨_,_,[],[],1,he,.inl ⟨h1,rfl,rfl,rfl⟩,World.ownsRow_nil _ _ _ _,World.ownsRow_nil _ _ _ _,hb⟩
 ·exact ⟨_,_,[],[],5,he,.inr (.inl ⟨h1,h2,h3,rfl,rfl,rfl⟩),World.ownsRow_nil _ _ _ _,World.ownsRow_nil _ _ _ _,hb⟩
 ·exact ⟨_,_,_,_,0,he,.inr (.inr ⟨h1,h2,h3,rfl,rfl,rfl⟩),o1,o2,hb⟩
theorem Discard_u (vs v vc : Value) (sc c : List (Int × Int)) (l : List Sb) (w : World) (hrs : Rd w vs sc) (hrd : RdS w v l) (hrc : Rd w vc c) :
  Calls Tryz.prog 154 #[.agg #[vs,v],vc] w fun e w'=>SetEnd (DsR sc c l) w e w' :=
 (Discard_any vs v vc sc c l w hrs hrd hrc).mono fun e w' h=>h.set
theorem refDiscard_u (vs v vc : Value) (sc c : List (Int × Int)) (l : List Sb) (w : World) (hrs : Rd w vs sc) (hrd : RdS w v l) (hrc : Rd w vc c) :
  Calls Tryz.prog 175 #[.agg #[vs,v],vc] w fun e w'=>SetEnd (DsR sc c l) w e w' :=
 (refDiscard_any vs v vc sc c l w hrs hrd hrc).mono fun e w' h=>h.set
noncomputable def updF (sc c : List (Int × Int)) (l : List Sb) (n k : Int) (s : ByteArray) : List (Int × Int) × List Sb × Int :=
 Classical.epsilon (h:=⟨([],[],0)⟩) fun q=>UpR sc c l n k s q.1 q.2.1 q.2.2
theorem updF_eq {l : List Sb} {L : List Sb} {e : Int} (h : UpR sc c l n k s C L e) : updF sc c l n k s = (C,L,e):=by
 have h1 : UpR sc c l n k s (updF sc c l n k s).1 (updF sc c l n k s).2.1 (updF sc c l n k s).2.2 :=
  Classical.epsilon_spec (p:=fun q : List (Int × Int) × List Sb × Int=>UpR sc c l n k s q.1 q.2.1 q.2.2) ⟨(C,L,e),h⟩
 obtain ⟨h2,h3,h4⟩:=h.fn h1
 exact Prod.ext h2 (Prod.ext h3 h4)
noncomputable def disF (sc c : List (Int × Int)) (l : List Sb) : List (Int × Int) × List Sb × Int :=
 Classical.epsilon (h:=⟨([],[],0)⟩) fun q=>DsR sc c l q.1 q.2.1 q.2.2
theorem disF_eq {l : List Sb} {L : List Sb} {e : Int} (h : DsR sc c l C L e) : disF sc c l = (C,L,e):=by
 have h1 : DsR sc c l (disF sc c l).1 (disF sc c l).2.1 (disF sc c l).2.2 :=
  Classical.epsilon_spec (p:=fun q : List (Int × Int) × List Sb × Int=>DsR sc c l q.1 q.2.1 q.2.2) ⟨(C,L,e),h⟩
 obtain ⟨h2,h3,h4⟩:=h.fn h1
 exact Prod.ext h2 (Prod.ext h3 h4)
def SetF (q : List (Int × Int) × List Sb × Int) (w : World) (e : Ending) (w' : World) : Prop :=
 ∃ r1 r2,e = .returned (.tuple #[.agg #[r1,r2],.int .i64 q.2.2])/\w'.ownsRow w.heap.size 183 2 r1 q.1.length (cellsE q.1)/\w'.ownsRow w.heap.size 122 3 r2 q.2.1.length (cellsS q.2.1)/\Below w.heap.size w w'/\q.1.length<=8/\q.2.1.length<=6
theorem SetEnd.upd {l : List Sb} {e : Ending} (h : SetEnd (UpR sc c l n k s) w e w') : SetF (updF sc c l n k s) w e w':=by
 obtain ⟨r1,r2,C,L,m,he,hr,h1,h2,hb⟩:=h
 rw [updF_eq hr]
 exact ⟨r1,r2,he,h1,h2,hb,hr.len.1,hr.len.2⟩
theorem SetEnd.dis {l : List Sb} {e : Ending} (h : SetEnd (DsR sc c l) w e w') : SetF (disF sc c l) w e w':=by
 obtain ⟨r1,r2,C,L,m,he,hr,h1,h2,hb⟩:=h
 rw [disF_eq hr]
 exact ⟨r1,r2,he,h1,h2,hb,hr.len.1,hr.len.2⟩
end Go.Proofs.YtilkdeghknjjhaaGreatDoor
namespace Go.Proofs.YtilkdeghknjjhaaGreatDoor
open Go.RowKit M
variable {Y Z : Nat->Prop} {w w' : World} {v vh : Value} {p : Nat} {node : Int}
structure Mu where
 del : Bool
 k : ByteArray
 v : ByteArray
 c : List (Int × Int)
structure Se where
 C : List (Int × Int)
 L : List Sb
def Se.nil : Se:=⟨[],[]⟩
noncomputable def outM (node : Int) (S : Se) (i : Nat) (x : Mu) : List (Int × Int) × List Sb × Int :=
 if x.del = true then disF S.C x.c S.L else updF S.C x.c S.L node ((i : Int) + 1) x.v
noncomputable def stepM (node : Int) (S : Se) (i : Nat) (x : Mu) : Se :=
 if (outM node S i x).2.1 = [] then Se.nil else ⟨(outM node S i x).1,(outM node S i x).2.1⟩
def mu (H : List Mu) (i : Nat) : Mu:=H.getD i ⟨false,ByteArray.empty,ByteArray.empty,[]⟩
theorem mu_get (H : List Mu) (i : Nat) (h : i < H.length) : mu H i = H[i]:=by simp [mu,List.getD,List.getElem?_eq_getElem h]
noncomputable def ofTo (node : Int) (H : List Mu) (key : ByteArray) : Nat->Se
 | 0=>Se.nil
 | i + 1=>if ((mu H i).k.toList == key.toList) = true then stepM node (ofTo node H key i) i (mu H i) else ofTo node H key i
noncomputable def ofM (node : Int) (H : List Mu) (key : ByteArray) : Se:=ofTo node H key H.length
structure MuV where
 x : Mu
 s : Value
def muv (L : List MuV) (i : Nat) : MuV:=L.getD i ⟨⟨false,ByteArray.empty,ByteArray.empty,[]⟩,undef⟩
theorem muv_get (L : List MuV) (i : Nat) (h : i < L.length) : muv L i = L[i]:=by simp [muv,List.getD,List.getElem?_eq_getElem h]
def cellsM : List MuV->List Value
 | []=>[]
 | e :: r=>.bool e.x.del :: .string e.x.k :: .string e.x.v :: e.s :: cellsM r
theorem cellsM_at : ∀ (l : List MuV) (j : Nat),j < l.length->(cellsM l)[j * 4]? = some (.bool (muv l j).x.del)/\(cellsM l)[j * 4 + 1]? = some (.string (muv l j).x.k)/\(cellsM l)[j * 4 + 2]? = some (.string (muv l j).x.v)/\(cellsM l)[j * 4 + 3]? = some (muv l j).s
 | [],j,h=>absurd h (by simp)
 | e :: r,0,_=>by simp [cellsM,muv]
 | e :: r,j + 1,h=>by
  have:=cellsM_at r j (by simpa using h)
  rw [show (j + 1) * 4 = j * 4 + 1 + 1 + 1 + 1 by omega]
  simpa [cellsM,muv] using this
theorem cellsM_append : ∀ (l m : List MuV),cellsM (l ++ m) = cellsM l ++ cellsM m
 | [],m=>rfl
 | x :: r,m=>by simp [cellsM,cellsM_append r m]
theorem cellsM_snoc (l : List MuV) (e : MuV) : cellsM (l ++ [e]) = cellsM l ++ [.bool e.x.del,.string e.x.k,.string e.x.v,e.s]:=by rw [cellsM_append];rfl
theorem cell_tr {a : Addr} (t : Tr Y w w') (h : w.cell? a = some v) (hn : ¬ Y a.block) : w'.cell? a = some v :=
 (World.cell?_of_block (t.block _ (World.block_lt_of_cell? w _ h) hn)).trans h
theorem Rd.tr {l : List (Int × Int)} (h : Rd w v l) (t : Tr Y w w') (hz : InZ (fun k=>¬ Y k) v) : Rd w' v l:=by
 obtain ⟨a,cap,hv,h1,h2,h3⟩:=h
 refine ⟨a,cap,hv,h1,h2,fun h0=>?_⟩
 obtain ⟨b,off,ha,hc⟩:=h3 h0
 have hn : ¬ Y b:=hz b (by rw [hv,ha];rfl)
 exact ⟨b,off,ha,fun j hj=>⟨cell_tr t (hc j hj).1 hn,cell_tr t (hc j hj).2 hn⟩⟩
structure ModIn (Z : Nat->Prop) (w : World) (p : Nat) (node : Int) (L : List MuV) (vh : Value) : Prop where
 zp : Z p
 hp : w.heap[p]? = some (.cells #[.int .i64 node,vh] 132 (0,0))
 rh : w.ownsRow 0 191 4 vh L.length (cellsM L)
 rc : ∀ y ∈ L,Rd w y.s y.x.c
 zh : InZ Z vh
 zc : ∀ y ∈ L,InZ Z y.s
theorem ModIn.tr {L : List MuV} (h : ModIn Z w p node L vh) (t : Tr Y w w') (hd : ∀ k,Z k->¬ Y k) : ModIn Z w' p node L vh :=
 ⟨h.zp,t.heap h.hp (hd _ h.zp),own_tr h.rh t (fun k hk=>hd k (h.zh k hk)),fun y hy=>(h.rc y hy).tr t (fun k hk=>hd k (h.zc y hy k hk)),h.zh,h.zc⟩
theorem ModIn.below {L : List MuV} (h : ModIn Z w p node L vh) (t : Below w.heap.size w w') : ModIn Z w' p node L vh :=
 ⟨h.zp,heap_later t h.hp,own_below h.rh t,fun y hy=>(h.rc y hy).below t,h.zh,h.zc⟩
theorem ModIn.mono {L : List MuV} (h : ModIn Z w p node L vh) (hs : ∀ k,Z k->Y k) : ModIn Y w p node L vh :=
 ⟨hs _ h.zp,h.hp,h.rh,h.rc,fun k hk=>hs k (h.zh k hk),fun y hy k hk=>hs k (h.zc y hy k hk)⟩
theorem ModIn.cells {L : List MuV} (h : ModIn Z w p node L vh) : ∃ a cap,vh = .slice a L.length cap/\(0 < L.length->∃ g,a = some ⟨g,0,none⟩/\∀ j,j < L.length ->
  w.cell? ⟨g,j * 4,none⟩ = some (.bool (muv L j).x.del)/\w.cell? ⟨g,j * 4 + 1,none⟩ = some (.string (muv L j).x.k)/\w.cell? ⟨g,j * 4 + 2,none⟩ = some (.string (muv L j).x.v)/\w.cell? ⟨g,j * 4 + 3,none⟩ = some (muv L j).s):=by
 obtain ⟨a,cap,hv,h1,h2,h3⟩:=own_cells h.rh
 refine ⟨a,cap,hv,fun h0=>?_⟩
 obtain ⟨g,ha,_,hc⟩:=h3 h0
 refine ⟨g,ha,fun j hj=>?_⟩
 obtain ⟨e0,e1,e2,e3⟩:=cellsM_at L j hj
 exact ⟨hc _ _ e0,hc _ _ e1,hc _ _ e2,hc _ _ e3⟩
theorem mu_map (L : List MuV) (i : Nat) (h : i < L.length) : mu (L.map MuV.x) i = (muv L i).x:=by
 rw [mu_get _ _ (by simpa using h),muv_get _ _ h];simp
end Go.Proofs.YtilkdeghknjjhaaGreatDoor
