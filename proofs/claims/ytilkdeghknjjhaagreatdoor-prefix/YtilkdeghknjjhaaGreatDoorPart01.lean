/- A region that draws its order, as a flow: each slot has one value at the end (or, where it is loose, a value that bears a row); whatever order comes up, they are filled. No program is named here. -/
import Derived.Orders
import Derived.Tactics
namespace Go.Proofs.YtilkdeghknjjhaaGreatDoor
open Go

/-- What an operation gives. -/
def gives (P : Program) (K : Value → World → Prop) : Result Next → Prop
  | .ok (.value v) w' => K v w'
  | .ok .skip w' => K undef w'
  | .ok (.enter f args) w' => Calls P f args w' (fun e w'' => ∃ v, e = .returned v ∧ K v w'')
  | _ => False
theorem wp_of_gives {P : Program} {o : Oper} {a : Act} {w : World} {next : Act → World → Prop} {Q : Exit → Act → World → Prop} {K : Value → World → Prop}
    (h : gives P K ((execOp a.eval o).run P w)) (hK : ∀ v w', K v w' → next (a.put o.dst v) w') : o.wp P a w next Q := by
  unfold Oper.wp
  generalize (execOp a.eval o).run P w = r at h
  cases r with
  | ok n w' =>
    cases n <;> simp only [gives] at h <;> simp only [Oper.upon]
    case value v => exact hK _ _ h
    case skip => exact hK _ _ h
    case enter f args => exact h.mono fun e w'' ⟨v, he, hv⟩ => by subst he; exact hK _ _ hv
  | halt x w' => simp only [gives] at h

/-- The slots that an operation reads. -/
def reads (o : Oper) : List Nat := o.op.operands.toList.filterMap fun | .tmp t => some t | _ => none
def dsts (ops : Array Oper) : List Nat := ops.toList.filterMap (·.dst)
def isSelect (o : Oper) : Bool := match o.op with | .select _ _ => true | _ => false
/-- Each slot that is read has been filled by one of those that it waits for; or by nobody. -/
def waits (ops : Array Oper) (o : Oper) : Bool := (reads o).all fun t => (o.after.toList.any fun e => Region.binds .any e && ((ops[e.on]?).bind (·.dst) == some t)) || !(dsts ops).contains t
/-- A guard's own answer has been waited for, and is one value. -/
def guarded (loose : List Nat) (ops : Array Oper) (o : Oper) : Bool := match o.guard with
  | none => true
  | some (g, _) => (o.after.toList.any fun e => Region.binds .any e && e.on == g) && match (ops[g]?).bind (·.dst) with | some d => !loose.contains d | none => false
def flowB (n : Nat) (loose : List Nat) (ops : Array Oper) : Bool :=
  decide (dsts ops).Nodup && (dsts ops).all (· < n) && ops.all (fun o => guarded loose ops o && !isSelect o && waits ops o) && (List.range ops.size).all fun i => (ops[i]?).all fun o => o.after.all fun e => decide (e.on < i)

variable {P : Program} {ops : Array Oper} {Q : Exit → Act → World → Prop}
/-- Which operations have come up, as a function; with one more. -/
def lst (listed : Array Bool) : Nat → Bool := fun i => listed.getD i false
def andI (L : Nat → Bool) (i : Nat) : Nat → Bool := fun j => if j = i then true else L j
theorem lst_set {listed : Array Bool} {i : Nat} (h : i < listed.size) : lst (listed.setIfInBounds i true) = andI (lst listed) i := by
  funext j
  unfold lst andI
  by_cases e : j = i
  · subst e
    rw [if_pos rfl, Array.getD_eq_getD_getElem?, Array.getElem?_setIfInBounds_self_of_lt h]; rfl
  · rw [if_neg e, Array.getD_eq_getD_getElem?, Array.getElem?_setIfInBounds_ne (Ne.symm e), ← Array.getD_eq_getD_getElem?]
/-- Operation i waits for operation j, by way of whichever others. -/
def anc (ops : Array Oper) : Nat → Nat → Nat → Bool
  | 0, _, _ => false
  | f + 1, i, j => match ops[i]? with
    | none => false
    | some o => o.after.toList.any fun e => Region.binds .any e && (e.on == j || anc ops f e.on j)
theorem anc_of {L : Nat → Bool} (hcl : ∀ (k : Nat) (o : Oper), ops[k]? = some o → L k = true → ∀ e ∈ o.after, Region.binds .any e = true → L e.on = true) :
    ∀ (f i j : Nat) (o : Oper), ops[i]? = some o → (∀ e ∈ o.after, Region.binds .any e = true → L e.on = true) → anc ops f i j = true → L j = true
  | 0, _, _, _, _, _, h => by simp [anc] at h
  | f + 1, i, j, o, hi, hd, h => by
    unfold anc at h
    rw [hi] at h
    simp only [List.any_eq_true, Bool.and_eq_true, Bool.or_eq_true, beq_iff_eq] at h
    obtain ⟨e, he0, hb, h⟩ := h
    have he : e ∈ o.after := by simpa using he0
    have hL := hd e he hb
    rcases h with h | h
    · rw [← h]; exact hL
    · cases ho : ops[e.on]? with
      | none => cases f with
        | zero => simp [anc] at h
        | succ f => unfold anc at h; rw [ho] at h; cases h
      | some oe => exact anc_of hcl f e.on j oe ho (hcl e.on oe ho hL) h
/-- What is kept while the operations come up. -/
structure Inv (ops : Array Oper) (loose : List Nat) (T : (Nat → Value) → Array Value) (n : Nat) (df : List Deferred) (C : (Nat → Bool) → World → Prop) (Row : Nat → Value → World → Prop) (listed : Array Bool) (a : Act) (w : World) : Prop where
  c : C (lst listed) w
  d : a.defers = df
  s : a.tmps.size = n
  ls : listed.size = ops.size
  cl : ∀ (k : Nat) (o : Oper), ops[k]? = some o → lst listed k = true → ∀ e ∈ o.after, Region.binds .any e = true → lst listed e.on = true
  ex : ∃ u : Nat → Value, (∀ k, (k ∉ dsts ops ∨ ∃ (i : Nat) (o : Oper), ops[i]? = some o ∧ o.dst = some k ∧ listed.getD i false = true) → a.tmps.getD k undef = (T u).getD k undef) ∧
    (∀ k ∈ loose, (∃ (i : Nat) (o : Oper), ops[i]? = some o ∧ o.dst = some k ∧ listed.getD i false = true) → Row k (u k) w)

theorem wp_region_flow {id : Nat} {a0 : Act} {w0 : World} (n : Nat) (loose : List Nat) (T : (Nat → Value) → Array Value) (C : (Nat → Bool) → World → Prop) (St : World → World → Prop) (Row : Nat → Value → World → Prop)
    (hm : P.follows .mixedOrders = true) (hB : flowB n loose ops = true) (hn : ∀ u, (T u).size = n)
    (hT1 : ∀ u k, k ∈ loose → (T u).getD k undef = u k) (hT2 : ∀ u v k, k ∉ loose → (T u).getD k undef = (T v).getD k undef) (hl : ∀ k ∈ loose, k ∈ dsts ops)
    (h0 : a0.tmps.size = n) (hk0 : ∀ u k, k ∉ dsts ops → a0.tmps.getD k undef = (T u).getD k undef)
    (hst : ∀ k v w w', St w w' → Row k v w → Row k v w') (hC : C (fun _ => false) { w0 with drawn := w0.drawn + 1 })
    (hops : ∀ (i : Nat) (o : Oper), ops[i]? = some o → ∀ L u w, L i = false → (∀ j, anc ops ops.size i j = true → L j = true) → (∀ k j, L k = true → anc ops ops.size k j = true → L j = true) → C L w → (∀ k ∈ loose, k ∈ reads o → Row k (u k) w) →
      if Region.wanted o (yielded ops (T u)) = true then gives P (fun v w' => C (andI L i) w' ∧ St w w' ∧ ∀ d, o.dst = some d → (d ∈ loose → Row d v w') ∧ (d ∉ loose → v = (T u).getD d undef)) ((execOp (Act.eval ⟨T u, a0.defers⟩) o).run P w)
      else C (andI L i) w ∧ ∀ d, o.dst = some d → d ∉ loose ∧ (T u).getD d undef = undef)
    (hend : ∀ L u w, (∀ i, i < ops.size → L i = true) → C L w → (∀ k ∈ loose, Row k (u k) w) → Q .normal ⟨T u, a0.defers⟩ w) : (Code.region id ops true).wp P Q a0 w0 := by
  simp only [flowB, Bool.and_eq_true, decide_eq_true_eq, List.all_eq_true] at hB
  obtain ⟨⟨⟨hnd, hlt⟩, hall⟩, hord⟩ := hB
  have hall' : ∀ (i : Nat) (o : Oper), ops[i]? = some o → guarded loose ops o = true ∧ isSelect o = false ∧ waits ops o = true := fun i o hi => by
    have hm : o ∈ ops := Array.mem_of_getElem? hi
    have := Array.all_eq_true_iff_forall_mem.1 hall o hm
    simp only [Bool.and_eq_true, Bool.not_eq_true'] at this
    exact ⟨this.1.1, this.1.2, this.2⟩
  have hback : ∀ (i : Nat) (o : Oper), ops[i]? = some o → ∀ e ∈ o.after, e.on < i := fun i o hi e he => by
    have h1 := hord i (List.mem_range.2 (Array.getElem?_eq_some_iff.1 hi).1)
    rw [hi] at h1
    simp only [Option.all_some] at h1
    have := Array.all_eq_true_iff_forall_mem.1 h1 e he
    simpa using this
  have hfill : ∀ k ∈ dsts ops, ∃ (i : Nat) (o : Oper), ops[i]? = some o ∧ o.dst = some k := fun k hk => by
    obtain ⟨o, ho, hd⟩ := List.mem_filterMap.1 hk
    obtain ⟨i, hi, rfl⟩ := List.getElem_of_mem ho
    exact ⟨i, _, by simp, hd⟩
  have huniq : ∀ (i j : Nat) (oi oj : Oper) (k : Nat), ops[i]? = some oi → ops[j]? = some oj → oi.dst = some k → oj.dst = some k → i = j := by
    intro i j oi oj k hi hj hdi hdj
    have key : ∀ (l : List Oper), (l.filterMap (fun (o : Oper) => o.dst)).Nodup → ∀ (i j : Nat) (oi oj : Oper), l[i]? = some oi → l[j]? = some oj → oi.dst = some k → oj.dst = some k → i < j → False := by
      intro l
      induction l with
      | nil => intro _ i j oi oj h; simp at h
      | cons x r ih =>
        intro hn i j oi oj h1 h2 d1 d2 hij
        have hn' : (r.filterMap (fun (o : Oper) => o.dst)).Nodup := by
          cases hx : x.dst with
          | none => rw [List.filterMap_cons_none hx] at hn; exact hn
          | some d => rw [List.filterMap_cons_some hx] at hn; exact (List.nodup_cons.1 hn).2
        cases j with
        | zero => omega
        | succ j =>
          simp only [List.getElem?_cons_succ] at h2
          cases i with
          | zero =>
            simp only [List.getElem?_cons_zero, Option.some.injEq] at h1
            subst h1
            rw [List.filterMap_cons_some d1] at hn
            exact (List.nodup_cons.1 hn).1 (List.mem_filterMap.2 ⟨oj, List.mem_of_getElem? h2, d2⟩)
          | succ i => exact ih hn' i j oi oj (by simpa using h1) h2 d1 d2 (by omega)
    rcases Nat.lt_trichotomy i j with h | h | h
    · exact (key ops.toList hnd i j oi oj (by simpa using hi) (by simpa using hj) hdi hdj h).elim
    · exact h
    · exact (key ops.toList hnd j i oj oi (by simpa using hj) (by simpa using hi) hdj hdi h).elim
  -- when none may come up, all have
  have hdone : ∀ listed : Array Bool, listed.size = ops.size → Region.ready .any ops listed = [] → ∀ i, i < ops.size → listed.getD i false = true := by
    intro listed hls hr i
    induction i using Nat.strongRecOn with
    | _ i ih =>
      intro hi
      cases hli : listed.getD i false with
      | true => rfl
      | false =>
        exfalso
        have hsz : i < listed.size := by omega
        have hm : i ∈ Region.ready .any ops listed := by
          rw [mem_ready]
          refine ⟨by simpa [Array.getD, hsz] using hli, ops[i], by simp [hi], fun e he hb => ?_⟩
          have hlt' := hback i ops[i] (by simp [hi]) e he
          exact ih e.on hlt' (by omega)
        rw [hr] at hm; cases hm
  have hgoal : ∀ (listed : Array Bool) (a : Act) (w : World), Inv ops loose T n a0.defers C Row listed a w → (∀ i, i < ops.size → listed.getD i false = true) → Q .normal a w := by
    intro listed a w hI hd
    obtain ⟨hc, hdf, hs, hls, hcl, u, hu, hr⟩ := hI
    have hat : ∀ k, a.tmps.getD k undef = (T u).getD k undef := fun k => by
      refine hu k ?_
      by_cases hk : k ∈ dsts ops
      · obtain ⟨i, o, hi, hik⟩ := hfill k hk
        exact .inr ⟨i, o, hi, hik, hd i (Array.getElem?_eq_some_iff.1 hi).1⟩
      · exact .inl hk
    have ha : a = ⟨T u, a0.defers⟩ := by
      obtain ⟨t, df⟩ := a
      simp only at hdf hs hat
      subst hdf
      congr 1
      apply Array.ext
      · rw [hs, hn]
      · intro k h1 h2
        have := hat k
        simpa [Array.getD, h1, h2] using this
    rw [ha]
    refine hend _ u w hd hc fun k hk => hr k hk ?_
    obtain ⟨i, o, hi, hik⟩ := hfill k (hl k hk)
    exact ⟨i, o, hi, hik, hd i (Array.getElem?_eq_some_iff.1 hi).1⟩
  have hstep : ∀ (listed : Array Bool) (a : Act) (w : World) (i : Nat) (K : Act → World → Prop), Inv ops loose T n a0.defers C Row listed a w → i ∈ Region.ready .any ops listed →
      (∀ a' w', Inv ops loose T n a0.defers C Row (listed.setIfInBounds i true) a' w' → K a' w') → wpOp P ops Q i K a w := by
    intro listed a w i K hI hi hK
    obtain ⟨hun, o, ho, hdep⟩ := mem_ready.1 hi
    obtain ⟨hg, hsel, hw⟩ := hall' i o ho
    obtain ⟨hc, hdf, hs, hls, hcl, u, hu, hr⟩ := hI
    have hio : i < ops.size := (Array.getElem?_eq_some_iff.1 ho).1
    have hread : ∀ t ∈ reads o, t ∉ dsts ops ∨ ∃ (j : Nat) (oj : Oper), ops[j]? = some oj ∧ oj.dst = some t ∧ listed.getD j false = true := by
      intro t ht
      have h1 := List.all_eq_true.1 hw t ht
      simp only [Bool.or_eq_true, Bool.not_eq_true', List.any_eq_true, Bool.and_eq_true, beq_iff_eq] at h1
      rcases h1 with ⟨e, he0, hb, hd⟩ | h1
      · have he : e ∈ o.after := by simpa using he0
        right
        cases hj : ops[e.on]? with
        | none => rw [hj] at hd; simp at hd
        | some oj =>
          rw [hj] at hd
          exact ⟨e.on, oj, hj, by simpa using hd, hdep e he hb⟩
      · left
        intro hm
        rw [List.contains_iff_mem.2 hm] at h1; cases h1
    have hcongr : execOp a.eval o = execOp (Act.eval ⟨T u, a0.defers⟩) o := by
      refine execOp_congr o (fun cs b hh => by unfold isSelect at hsel; rw [hh] at hsel; cases hsel) fun x hx => ?_
      cases x with
      | tmp t =>
        have : t ∈ reads o := List.mem_filterMap.2 ⟨.tmp t, by simpa using hx, rfl⟩
        exact hu t (hread t this)
      | _ => rfl
    have hli : lst listed i = false := by
      have hsz : i < listed.size := by omega
      unfold lst
      rw [Array.getD_eq_getD_getElem?, Array.getElem?_eq_getElem hsz] at hun ⊢
      exact hun
    have hset' := lst_set (listed := listed) (i := i) (by omega)
    have hgv := hops i o ho _ u w hli (fun j hj => anc_of hcl _ i j o ho hdep hj) (fun k j hk hj => by
      cases hok : ops[k]? with
      | none => cases hsz : ops.size with
        | zero => rw [hsz] at hj; simp [anc] at hj
        | succ f => rw [hsz] at hj; unfold anc at hj; rw [hok] at hj; cases hj
      | some ok => exact anc_of hcl _ k j ok hok (hcl k ok hok hk) hj) hc (fun k hk hkr => hr k hk (by
      rcases hread k hkr with h | h
      · exact absurd (hl k hk) h
      · exact h))
    have hwant : Region.wanted o (yielded ops a.tmps) = Region.wanted o (yielded ops (T u)) := by
      unfold guarded at hg
      unfold Region.wanted
      cases hgo : o.guard with
      | none => rfl
      | some gw =>
        obtain ⟨g, want⟩ := gw
        rw [hgo] at hg
        simp only [Bool.and_eq_true, List.any_eq_true, beq_iff_eq] at hg
        obtain ⟨⟨e, he0, hb, hon⟩, hgd⟩ := hg
        have he : e ∈ o.after := by simpa using he0
        have hy : yielded ops a.tmps g = yielded ops (T u) g := by
          unfold yielded
          cases ht : (ops[g]?).bind (·.dst) with
          | none => rfl
          | some t =>
            rw [ht] at hgd
            cases hog : ops[g]? with
            | none => rw [hog] at ht; simp at ht
            | some og =>
              rw [hog] at ht
              have h1 := hu t (.inr ⟨g, og, hog, by simpa using ht, by rw [← hon]; exact hdep e he hb⟩)
              have hts : t < n := by simpa using hlt t (List.mem_filterMap.2 ⟨og, by simpa using Array.mem_of_getElem? hog, by simpa using ht⟩)
              have h2 : a.tmps[t]? = (T u)[t]? := by
                rw [Array.getD_eq_getD_getElem?, Array.getD_eq_getD_getElem?, Array.getElem?_eq_getElem (by rw [hs]; exact hts), Array.getElem?_eq_getElem (by rw [hn]; exact hts)] at h1
                rw [Array.getElem?_eq_getElem (by rw [hs]; exact hts), Array.getElem?_eq_getElem (by rw [hn]; exact hts)]
                exact congrArg some h1
              simp only [Option.bind_some, h2]
        simp only [hy]
    have fin : ∀ (v : Value) (w' : World), C (andI (lst listed) i) w' → St w w' ∨ w' = w → (∀ d, o.dst = some d → (d ∈ loose → Row d v w') ∧ (d ∉ loose → v = (T u).getD d undef)) → K (a.put o.dst v) w' := by
      intro v w' hc' hs0 hd'
      have hst' : ∀ k v, Row k v w → Row k v w' := fun k v hr => by
        rcases hs0 with h | rfl
        · exact hst k v w w' h hr
        · exact hr
      refine hK _ _ ?_
      have hdf' : (a.put o.dst v).defers = a0.defers := by cases hd : o.dst <;> simp [Act.put, hdf]
      have hsz' : (a.put o.dst v).tmps.size = n := by cases hd : o.dst <;> simp [Act.put, hs]
      refine ⟨hset' ▸ hc', hdf', hsz', by simp [hls], ?_, ?_⟩
      · intro k ok hok hk e he hb
        rw [hset'] at hk ⊢
        unfold andI at hk ⊢
        split
        · rfl
        · split at hk
          · rename_i hki
            subst hki
            rw [ho] at hok; cases hok
            exact hdep e he hb
          · exact hcl k ok hok hk e he hb
      have hset : ∀ (j : Nat), (listed.setIfInBounds i true).getD j false = true → j = i ∨ listed.getD j false = true := fun j hj => by
        by_cases e : j = i
        · exact .inl e
        · right
          rw [Array.getD_eq_getD_getElem?, Array.getElem?_setIfInBounds_ne (Ne.symm e)] at hj
          rwa [Array.getD_eq_getD_getElem?]
      cases hod : o.dst with
      | none =>
        refine ⟨u, fun k hk => ?_, fun k hk hk2 => hst' k _ (hr k hk ?_)⟩
        · show a.tmps.getD k undef = _
          refine hu k (hk.imp (fun h => h) fun ⟨j, oj, h1, h2, h3⟩ => ⟨j, oj, h1, h2, ?_⟩)
          rcases hset j h3 with rfl | h3
          · rw [ho] at h1; cases h1; rw [hod] at h2; cases h2
          · exact h3
        · obtain ⟨j, oj, h1, h2, h3⟩ := hk2
          rcases hset j h3 with rfl | h3
          · rw [ho] at h1; cases h1; rw [hod] at h2; cases h2
          · exact ⟨j, oj, h1, h2, h3⟩
      | some d =>
        have hdm : d ∈ dsts ops := List.mem_filterMap.2 ⟨o, by simpa using Array.mem_of_getElem? ho, hod⟩
        have hdn : d < n := by simpa using hlt d hdm
        obtain ⟨hd1, hd2⟩ := hd' d hod
        have hother : ∀ k, k ≠ d → (k ∉ dsts ops ∨ ∃ (j : Nat) (oj : Oper), ops[j]? = some oj ∧ oj.dst = some k ∧ (listed.setIfInBounds i true).getD j false = true) → (k ∉ dsts ops ∨ ∃ (j : Nat) (oj : Oper), ops[j]? = some oj ∧ oj.dst = some k ∧ listed.getD j false = true) := fun k hkd h => h.imp (fun h => h) fun ⟨j, oj, h1, h2, h3⟩ => ⟨j, oj, h1, h2, by
          rcases hset j h3 with rfl | h3
          · rw [ho] at h1; cases h1; rw [hod] at h2; cases h2; exact absurd rfl hkd
          · exact h3⟩
        refine ⟨fun k => if k = d then v else u k, fun k hk => ?_, fun k hk hk2 => ?_⟩
        · show (a.tmps.setIfInBounds d v).getD k undef = _
          by_cases hkd : k = d
          · subst hkd
            have e1 : (a.tmps.setIfInBounds k v).getD k undef = v := by rw [Array.getD_eq_getD_getElem?, Array.getElem?_setIfInBounds_self_of_lt (by rw [hs]; exact hdn)]; rfl
            rw [e1]
            by_cases hkl : k ∈ loose
            · rw [hT1 _ _ hkl, if_pos rfl]
            · rw [hd2 hkl]; exact hT2 _ _ k hkl
          · have e1 : (a.tmps.setIfInBounds d v).getD k undef = a.tmps.getD k undef := by
              rw [Array.getD_eq_getD_getElem?, Array.getElem?_setIfInBounds_ne (Ne.symm hkd), ← Array.getD_eq_getD_getElem?]
            rw [e1, hu k (hother k hkd hk)]
            by_cases hkl : k ∈ loose
            · rw [hT1 _ _ hkl, hT1 _ _ hkl]
              exact (if_neg hkd).symm
            · exact hT2 _ _ _ hkl
        · by_cases hkd : k = d
          · subst hkd
            show Row k (if k = k then v else u k) w'
            rw [if_pos rfl]
            exact hd1 hk
          · show Row k (if k = d then v else u k) w'
            rw [if_neg hkd]
            refine hst' k _ (hr k hk ?_)
            rcases hother k hkd (.inr hk2) with h | h
            · exact absurd (hl k hk) h
            · exact h
    unfold wpOp
    simp only [ho]
    by_cases hwt : Region.wanted o (yielded ops (T u)) = true
    · rw [hwant, if_pos hwt]
      rw [if_pos hwt, ← hcongr] at hgv
      exact .inl (wp_of_gives hgv fun v w' ⟨hc', hs', hd'⟩ => fin v w' hc' (.inl hs') hd')
    · rw [hwant, if_neg hwt]
      rw [if_neg hwt] at hgv
      exact fin undef w hgv.1 (.inr rfl) fun d hd => ⟨fun hdl => absurd hdl (hgv.2 d hd).1, fun _ => (hgv.2 d hd).2.symm⟩
  have full : ∀ (fuel : Nat) (listed : Array Bool) (a : Act) (w : World), Inv ops loose T n a0.defers C Row listed a w → listed.toList.countP (fun b => !b) ≤ fuel → wpAny P .any ops Q fuel listed a w := by
    intro fuel
    induction fuel with
    | zero =>
      intro listed a w hI hf
      have hall0 : ∀ i, i < ops.size → listed.getD i false = true := fun i hi => by
        have h1 : listed.toList.countP (fun b => !b) = 0 := by omega
        rw [List.countP_eq_zero] at h1
        have hsz : i < listed.size := by have := hI.ls; omega
        have := h1 listed[i] (by simp)
        simpa [Array.getD, hsz] using this
      refine ⟨?_, hgoal listed a w hI hall0⟩
      rw [List.eq_nil_iff_forall_not_mem]
      intro i hi
      obtain ⟨h1, o, ho, _⟩ := mem_ready.1 hi
      have hio : i < ops.size := (Array.getElem?_eq_some_iff.1 ho).1
      have h2 := hall0 i hio
      have hsz : i < listed.size := by have := hI.ls; omega
      simp [Array.getD, hsz] at h1 h2
      rw [h1] at h2; cases h2
    | succ fuel ih =>
      intro listed a w hI hf
      refine ⟨fun hr => hgoal listed a w hI (hdone listed hI.ls hr), fun i hi => hstep listed a w i _ hI hi fun a' w' hI' => ih _ a' w' hI' ?_⟩
      obtain ⟨h1, o, ho, _⟩ := mem_ready.1 hi
      have hsz : i < listed.size := by have := hI.ls; have := (Array.getElem?_eq_some_iff.1 ho).1; omega
      have h2 : listed.toList[i]? = some false := by simp [Array.getD, hsz] at h1; simp [hsz, h1]
      have h3 := List.countP_set (p := fun b => !b) (l := listed.toList) (i := i) (a := true) (by simpa using hsz)
      have h4 : listed.toList[i]'(by simpa using hsz) = false := by rw [List.getElem?_eq_getElem (by simpa using hsz)] at h2; simpa using h2
      have h5 : 0 < listed.toList.countP (fun b => !b) := List.countP_pos_iff.2 ⟨false, List.mem_of_getElem? h2, rfl⟩
      have h6 : (listed.setIfInBounds i true).toList = listed.toList.set i true := by simp
      rw [h6, h3, h4]
      simp only [Bool.not_false, if_true, Bool.not_true, Bool.false_eq_true, if_false]
      omega
  have hrep : lst (Array.replicate ops.size false) = fun _ => false := by
    funext j
    unfold lst
    rw [Array.getD_eq_getD_getElem?, Array.getElem?_replicate]
    split <;> rfl
  have hC0 : C (lst (Array.replicate ops.size false)) { w0 with drawn := w0.drawn + 1 } := by rw [hrep]; exact hC
  refine wp_region_any hm (full ops.size _ a0 _ ⟨hC0, rfl, h0, by simp, (fun k o _ hk => absurd hk (by rw [hrep]; simp)), fun _ => undef, fun k hk => ?_, fun k hk ⟨i, o, h1, h2, h3⟩ => ?_⟩ ?_)
  · rcases hk with hk | ⟨i, o, h1, h2, h3⟩
    · exact hk0 _ k hk
    · simp [Array.getD] at h3
  · simp [Array.getD] at h3
  · have := List.countP_le_length (p := fun b => !b) (l := (Array.replicate ops.size false).toList)
    simpa using this
/-- Of each operation in turn, with its number. -/
def eachOp (p : Nat → Oper → Prop) : Nat → List Oper → Prop
  | _, [] => True
  | k, o :: l => p k o ∧ eachOp p (k + 1) l
theorem eachOp_mem {p : Nat → Oper → Prop} (l : List Oper) : ∀ k, eachOp p k l → ∀ i o, l[i]? = some o → p (k + i) o := by
  induction l with
  | nil => intro k _ i o h; simp at h
  | cons x r ih =>
    intro k h i o hi
    unfold eachOp at h
    cases i with
    | zero => simp at hi; subst hi; exact h.1
    | succ i =>
      have := ih (k + 1) h.2 i o (by simpa using hi)
      rwa [show k + (i + 1) = k + 1 + i by omega]
theorem eachOp_at {p : Nat → Oper → Prop} {ops : Array Oper} (h : eachOp p 0 ops.toList) (i : Nat) (o : Oper) (hi : ops[i]? = some o) : p i o := by
  have := eachOp_mem _ 0 h i o (by simpa using hi)
  rwa [Nat.zero_add] at this
theorem wantedI {p : Prop} [Decidable p] {A B : Prop} (h : p) (a : A) : if p then A else B := by rw [if_pos h]; exact a
theorem wantedN {p : Prop} [Decidable p] {A B : Prop} (h : ¬ p) (b : B) : if p then A else B := by rw [if_neg h]; exact b
theorem andI_same (L : Nat → Bool) (i : Nat) : andI L i i = true := by simp [andI]
theorem andI_ne (L : Nat → Bool) {i j : Nat} (h : j ≠ i) : andI L i j = L j := by simp [andI, h]
theorem flow_loose {T : (Nat → Value) → Array Value} {p : Nat} (hT : ∀ u, T u = (T fun _ => undef).setIfInBounds p (u p)) (u v : Nat → Value) (k : Nat) (hk : k ∉ [p]) : (T u).getD k undef = (T v).getD k undef := by
  have hne : p ≠ k := fun e => hk (by simp [e])
  rw [hT u, hT v, Array.getD_eq_getD_getElem?, Array.getD_eq_getD_getElem?, Array.getElem?_setIfInBounds_ne hne, Array.getElem?_setIfInBounds_ne hne]
theorem flow_keep {n : Nat} {ops : Array Oper} {A B : Array Value} (l : List Nat) (hl : ((List.range n).filter fun k => !(dsts ops).contains k) = l) (hA : A.size = n) (hB : B.size = n) (h : ∀ k ∈ l, A.getD k undef = B.getD k undef) (k : Nat) (hk : k ∉ dsts ops) : A.getD k undef = B.getD k undef := by
  by_cases hkn : k < n
  · refine h k (hl ▸ List.mem_filter.2 ⟨List.mem_range.2 hkn, ?_⟩)
    cases hc : (dsts ops).contains k
    · rfl
    · exact absurd (List.contains_iff_mem.1 hc) hk
  · rw [Array.getD_eq_getD_getElem?, Array.getD_eq_getD_getElem?, Array.getElem?_eq_none (by omega), Array.getElem?_eq_none (by omega)]
end Go.Proofs.YtilkdeghknjjhaaGreatDoor
