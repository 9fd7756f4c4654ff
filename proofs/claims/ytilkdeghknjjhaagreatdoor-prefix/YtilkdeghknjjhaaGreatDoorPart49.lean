/- The store and the document's: what Put and Delete answer. Plain facts. -/
import Derived.Test.YtilkdeghknjjhaaGreatDoorPart48
import Derived.Test.YtilkdeghknjjhaaGreatDoorPart37
import Derived.Test.YtilkdeghknjjhaaGreatDoorPart38
namespace Go.Proofs.YtilkdeghknjjhaaGreatDoor
open Go.RowKit M
set_option linter.unusedVariables false

/-- A mutation as the document has it. -/
def Mt.mu (m : Mt) : Mu := ⟨m.del, m.k, m.v, m.c⟩
theorem mu_left (H X : List Mu) (i : Nat) (h : i < H.length) : mu (H ++ X) i = mu H i := by
  unfold mu; rw [List.getD_eq_getElem?_getD, List.getD_eq_getElem?_getD, List.getElem?_append_left h]
theorem ofTo_left (node : Int) (H X : List Mu) (key : ByteArray) : ∀ i, i ≤ H.length → ofTo node (H ++ X) key i = ofTo node H key i
  | 0, _ => rfl
  | i + 1, h => by
    simp only [ofTo]
    rw [ofTo_left node H X key i (by omega), mu_left H X i (by omega)]
theorem ofM_snoc (node : Int) (H : List Mu) (x : Mu) (key : ByteArray) : ofM node (H ++ [x]) key = if (x.k.toList == key.toList) = true then stepM node (ofM node H key) H.length x else ofM node H key := by
  unfold ofM
  have hl : (H ++ [x]).length = H.length + 1 := by simp
  rw [hl]
  simp only [ofTo]
  rw [ofTo_left node H [x] key H.length (Nat.le_refl _)]
  have : mu (H ++ [x]) H.length = x := by unfold mu; simp
  rw [this]
theorem outF_mu {nd : Int} {E : Se} {m : Mt} {i : Nat} (h1 : m.node = nd) (h2 : m.count = (i : Int) + 1) : outF E m = outM nd E i m.mu := by
  unfold outF outM Mt.mu
  rw [h1, h2]
/-- What the store keeps is what the document's folds. -/
theorem run_of (nd : Int) : ∀ (n : Nat) (ms : List Mt), ms.length = n → GoodM nd zM 0 ms → ∀ key, runMt zM ms key = ofM nd (ms.map Mt.mu) key
  | 0, ms, hl, _, key => by
    have : ms = [] := List.length_eq_zero_iff.1 hl
    subst this; rfl
  | n + 1, ms, hl, hg, key => by
    rcases List.eq_nil_or_concat ms with rfl | ⟨a, m, rfl⟩
    · simp at hl
    · rw [List.concat_eq_append] at hl hg ⊢
      have hla : a.length = n := by simp at hl; exact hl
      obtain ⟨g1, g2⟩ := (good_app a [m] zM 0).1 hg
      have ih := run_of nd n a hla g1
      obtain ⟨h1, _⟩ := g2
      rw [runMt_app, List.map_append]
      show stepMt (runMt zM a) m key = ofM nd (a.map Mt.mu ++ [m.mu]) key
      rw [ofM_snoc, List.length_map]
      unfold stepMt keepM upd
      have hk : m.mu.k = m.k := rfl
      have ho : outF (runMt zM a m.k) m = outM nd (runMt zM a m.k) a.length m.mu := outF_mu h1.node (by have := h1.count; omega)
      by_cases e : key = m.k
      · subst e
        rw [if_pos rfl, hk]
        have hb : (m.k.toList == m.k.toList) = true := by simp
        rw [hb]
        simp only [if_true]
        rw [ho, ← ih]
        unfold stepM
        rfl
      · rw [if_neg e, hk, if_neg (fun hh => e (bytes_eq hh).symm), ih]
theorem decN_iff (c : ByteArray) : decN (bs c) ≠ 0 ↔ ¬ Dec c.data.toList := by
  unfold decN bs
  by_cases h : Dec c.data.toList
  · rw [if_pos h]; simp [h]
  · rw [if_neg h]; simp [h]
theorem decC_eq {c : ByteArray} (h : Dec c.data.toList) : decC (bs c) = clkT c := by
  unfold decC bs clkT; rw [if_pos h]
theorem upd_err {sc c : List (Int × Int)} {l : List Sb} {n k : Int} {s : ByteArray} : (updF sc c l n k s).2.2 = 0 ∨ (updF sc c l n k s).2.2 = 1 ∨ (updF sc c l n k s).2.2 = 5 := by
  obtain ⟨C, L, e, h⟩ := upd_ex sc c l n k s
  rw [updF_eq h]
  rcases h with ⟨_, _, _, rfl⟩ | ⟨_, _, _, _, rfl⟩ | ⟨_, _, _, _, _, rfl⟩ | ⟨_, _, _, p, _, _, _, rfl⟩ <;> simp
theorem dis_err {sc c : List (Int × Int)} {l : List Sb} : (disF sc c l).2.2 = 0 ∨ (disF sc c l).2.2 = 1 ∨ (disF sc c l).2.2 = 5 := by
  obtain ⟨C, L, e, h⟩ := dis_ex sc c l
  rw [disF_eq h]
  rcases h with ⟨_, _, _, rfl⟩ | ⟨_, _, _, _, _, rfl⟩ | ⟨_, _, _, _, _, rfl⟩ <;> simp
end Go.Proofs.YtilkdeghknjjhaaGreatDoor
/- Prefix: values at keys of their own, one behind the other. Plain facts. -/
namespace Go.Proofs.YtilkdeghknjjhaaGreatDoor
open Go.RowKit M
set_option linter.unusedVariables false

def kB (i : Nat) : Bs := 107 :: Lib.itoa ((100 + i : Nat) : Int)
def kT (i : Nat) : ByteArray := (⟨#[107]⟩ : ByteArray) ++ ba (Lib.itoa ((100 + i : Nat) : Int))
def vT (i : Nat) : ByteArray := (⟨#[118]⟩ : ByteArray) ++ ba (Lib.itoa (i : Int))
theorem kT_data (i : Nat) : (kT i).data.toList = kB i := by
  have := bs_app (⟨#[107]⟩ : ByteArray) (ba (Lib.itoa ((100 + i : Nat) : Int)))
  rw [bs_ba] at this
  exact this
theorem dec3 (i : Nat) (h : i < 900) : Lib.decDigits (100 + i) = [UInt8.ofNat (48 + (100 + i) / 100), UInt8.ofNat (48 + (100 + i) / 10 % 10), UInt8.ofNat (48 + (100 + i) % 10)] := by
  rw [Lib.decDigits, dif_neg (by omega), Lib.decDigits, dif_neg (by omega), Lib.decDigits, dif_pos (by omega)]
  have : (100 + i) / 10 / 10 = (100 + i) / 100 := by omega
  rw [this]
  rfl
theorem kB_eq (i : Nat) (h : i < 900) : kB i = [107, UInt8.ofNat (48 + (100 + i) / 100), UInt8.ofNat (48 + (100 + i) / 10 % 10), UInt8.ofNat (48 + (100 + i) % 10)] := by
  unfold kB
  rw [Lib.itoa_nonneg, dec3 i h]
def kL (i : Nat) : Bs := [107, UInt8.ofNat (48 + (100 + i) / 100), UInt8.ofNat (48 + (100 + i) / 10 % 10), UInt8.ofNat (48 + (100 + i) % 10)]
theorem kL_less : ∀ j, j < 61 → ∀ i, i < j → Op.bytesLess (kL i) (kL j) = true := by decide +kernel
theorem kT_less {i j : Nat} (hij : i < j) (hj : j < 61) : bl (kT i) (kT j) = true := by
  unfold bl
  rw [Lib.toList_data, Lib.toList_data, kT_data, kT_data, kB_eq i (by omega), kB_eq j (by omega)]
  exact kL_less j hj i hij
theorem kT_inj {i j : Nat} (hi : i < 61) (hj : j < 61) (h : kT i = kT j) : i = j := by
  rcases Nat.lt_trichotomy i j with h1 | h1 | h1
  · have := kT_less h1 hj
    rw [h, bl_irr] at this; cases this
  · exact h1
  · have := kT_less h1 hi
    rw [h, bl_irr] at this; cases this
theorem kT_size (i : Nat) (h : i < 900) : (kT i).size = 4 := by
  have : (kT i).size = (kT i).data.toList.length := by simp
  rw [this, kT_data, kB_eq i h]; rfl
theorem kT_ok (i : Nat) (h : i < 900) : keyOK (kT i) = true := by unfold keyOK; rw [kT_size i h]; rfl
theorem vT_size (i : Nat) (h : i < 900) : (vT i).size ≤ 20 := by
  unfold vT
  rw [ByteArray.size_append, ba_size]
  have := itoa_len i (by omega)
  have h1 : (⟨#[118]⟩ : ByteArray).size = 1 := rfl
  omega
theorem clk_one {nd c : Int} (hd : Dot nd c) : Clk [(nd, c)] := (clk_iff _).2 ⟨by simp, List.pairwise_singleton _ _, fun e he => by rw [List.mem_singleton.1 he]; exact hd⟩
theorem jn_one {nd c : Int} (hd : Dot nd c) : jn [[], [], [(nd, c)]] = [(nd, c)] := by
  have h1 : ∀ i, i < [([] : List (Int × Int)), [], [(nd, c)]].length → US ([([] : List (Int × Int)), [], [(nd, c)]].getD i []) := by
    intro i hi
    have h0 : US ([] : List (Int × Int)) := ⟨List.Pairwise.nil, fun e he => by simp at he⟩
    match i, hi with
    | 0, _ => exact h0
    | 1, _ => exact h0
    | 2, _ => exact ((clk_iff _).1 (clk_one hd)).2
    | n + 3, h => exact absurd h (by simp)
  refine US_ext (US_jn h1) ((clk_iff _).1 (clk_one hd)).2 fun n hn => ?_
  rw [cS_jn h1 n hn]
  have e2 : cS ([] : List (Int × Int)) n = 0 := rfl
  have e3 := cS_nonneg [(nd, c)] n
  show max (max (max 0 (cS [] n)) (cS [] n)) (cS [(nd, c)] n) = _
  rw [e2]; omega
/-- A value that is the first of its key. -/
theorem upd_new {nd c : Int} {v : ByteArray} (hd : Dot nd c) (hv : v.size ≤ 200) : updF [] [] [] nd c v = ([(nd, c)], [⟨nd, c, v⟩], 0) := by
  have hc0 : Clk ([] : List (Int × Int)) := ⟨by simp, fun j h => absurd h (by simp)⟩
  have hne : ¬ c ≤ cS [] nd := by have : cS ([] : List (Int × Int)) nd = 0 := rfl; have := hd.2.2.1; omega
  refine updF_eq (.inr (.inr (.inr ⟨⟨⟨hc0, by simp, fun k h => absurd h (by simp)⟩, hc0, hd, hv, hne, hne⟩, by decide, ?_, 0, ⟨by simp, fun h => absurd h (by omega), fun h => absurd h (by simp [un])⟩, ?_, rfl, rfl⟩)))
  · rw [jn_one hd]; simp
  · rw [jn_one hd]
/-- The i-th value that is put. -/
def mP (nd : Int) (i : Nat) : Mt := ⟨false, nd, (i : Int) + 1, kT i, [], vT i⟩
def msP (nd : Int) (n : Nat) : List Mt := (List.range n).map (mP nd)
theorem msP_len (nd : Int) (n : Nat) : (msP nd n).length = n := by simp [msP]
theorem msP_succ (nd : Int) (n : Nat) : msP nd (n + 1) = msP nd n ++ [mP nd n] := by simp [msP, List.range_succ]
theorem msP_prefix {nd : Int} {n : Nat} {a : List Mt} (h : a <+: msP nd n) : a = msP nd a.length ∧ a.length ≤ n := by
  have hl := h.length_le
  rw [msP_len] at hl
  refine ⟨?_, hl⟩
  have h1 := List.prefix_iff_eq_take.1 h
  conv => lhs; rw [h1]
  unfold msP
  rw [← List.map_take, List.take_range, Nat.min_eq_left hl]
theorem outP {nd : Int} {i : Nat} (h0 : 0 ≤ nd) (h1 : nd ≤ 15) (hi : i < 900) : outF Se.nil (mP nd i) = ([(nd, (i : Int) + 1)], [⟨nd, (i : Int) + 1, vT i⟩], 0) := by
  unfold outF mP
  rw [if_neg (by simp)]
  show updF [] [] [] nd ((i : Int) + 1) (vT i) = _
  exact upd_new ⟨h0, h1, by omega, by omega⟩ (by have := vT_size i hi; omega)
theorem runP {nd : Int} (h0 : 0 ≤ nd) (h1 : nd ≤ 15) : ∀ n, n ≤ 60 → (∀ i, i < n → runMt zM (msP nd n) (kT i) = ⟨[(nd, (i : Int) + 1)], [⟨nd, (i : Int) + 1, vT i⟩]⟩) ∧ (∀ x, (∀ i, i < n → x ≠ kT i) → runMt zM (msP nd n) x = Se.nil)
  | 0, _ => ⟨fun i hi => absurd hi (Nat.not_lt_zero i), fun x _ => rfl⟩
  | n + 1, h => by
    obtain ⟨a, b⟩ := runP h0 h1 n (by omega)
    have hnil : runMt zM (msP nd n) (kT n) = Se.nil := b _ fun i hi e => by have := kT_inj (by omega) (by omega) e; omega
    have e : ∀ x, runMt zM (msP nd (n + 1)) x = if x = kT n then ⟨[(nd, (n : Int) + 1)], [⟨nd, (n : Int) + 1, vT n⟩]⟩ else runMt zM (msP nd n) x := fun x => by
      rw [msP_succ, runMt_app]
      show stepMt (runMt zM (msP nd n)) (mP nd n) x = _
      unfold stepMt keepM upd
      have hk : (mP nd n).k = kT n := rfl
      rw [hk, hnil, outP h0 h1 (by omega)]
      split
      · rw [if_neg (by simp)]
      · rfl
    refine ⟨fun i hi => ?_, fun x hx => ?_⟩
    · rw [e]
      by_cases hin : i = n
      · subst hin; rw [if_pos rfl]
      · rw [if_neg (fun hh => hin (kT_inj (by omega) (by omega) hh))]
        exact a i (by omega)
    · rw [e, if_neg (hx n (by omega))]
      exact b x fun i hi => hx i (by omega)
theorem atP {nd : Int} (h0 : 0 ≤ nd) (h1 : nd ≤ 15) {n : Nat} (hn : n < 60) : MtAt nd (runMt zM (msP nd n)) n (mP nd n) := by
  have hnil : runMt zM (msP nd n) (kT n) = Se.nil := (runP h0 h1 n (by omega)).2 _ fun i hi e => by have := kT_inj (by omega) (by omega) e; omega
  have hk : (mP nd n).k = kT n := rfl
  refine ⟨⟨clk_one ⟨h0, h1, by show (1 : Int) ≤ (n : Int) + 1; omega, by show (n : Int) + 1 ≤ _; omega⟩, ⟨by simp [mP], fun j h => absurd h (by simp [mP])⟩, by rw [hk, kT_size n (by omega)]; omega, by show (vT n).size ≤ 255; have := vT_size n (by omega); omega⟩, rfl, rfl, kT_ok n (by omega), ?_⟩
  rw [hk, hnil, outP h0 h1 (by omega)]
theorem goodP {nd : Int} (h0 : 0 ≤ nd) (h1 : nd ≤ 15) : ∀ n, n ≤ 60 → GoodM nd zM 0 (msP nd n)
  | 0, _ => trivial
  | n + 1, h => by
    rw [msP_succ]
    refine good_snoc (goodP h0 h1 n (by omega)) ?_
    rw [msP_len]
    exact atP h0 h1 (by omega)
/-- The keys that are told. -/
theorem keysP {nd : Int} (h0 : 0 ≤ nd) (h1 : nd ≤ 15) {n : Nat} (hn : n ≤ 60) {ks : List ByteArray} (h : StKeys (runMt zM (msP nd n)) ks) : ks = (List.range n).map kT := by
  obtain ⟨a, b⟩ := runP h0 h1 n hn
  refine rising_eq h.1 (List.pairwise_map.2 ?_) fun x => ?_
  · refine (List.pairwise_lt_range (n := n)).imp_of_mem fun {i j} hi hj hij => kT_less hij (by have := List.mem_range.1 hj; omega)
  · rw [h.2, List.mem_map]
    constructor
    · intro hx
      by_cases he : ∃ i, i < n ∧ x = kT i
      · obtain ⟨i, hi, rfl⟩ := he
        exact ⟨i, List.mem_range.2 hi, rfl⟩
      · exact absurd (by rw [b x fun i hi e => he ⟨i, hi, e⟩]; rfl) hx
    · rintro ⟨i, hi, rfl⟩
      rw [a i (List.mem_range.1 hi)]; simp
/-- A key that is none of them. -/
theorem zP {n : Nat} (hn : n ≤ 60) : ∀ i, i < n → (⟨#[122]⟩ : ByteArray) ≠ kT i := fun i hi e => by
  have := congrArg ByteArray.size e
  rw [kT_size i (by omega)] at this
  cases this
end Go.Proofs.YtilkdeghknjjhaaGreatDoor
