/- The contracts of both answers in one form, and the walk of Clocks. -/
import Derived.Test.YtkiipmdplpcfeaaS6
import Derived.WalkKit
import Derived.WalkSpells
import Derived.WalkLawsBesides
namespace Go.Proofs.Ytkiipmdplpcfeaa
open Go.RowKit M
set_option linter.unusedVariables false

/-- What Join answers, as a list and a number. -/
def JR (A B J : List (Int × Int)) (c : Int) : Prop :=
  ((¬ Clk A ∨ ¬ Clk B) ∧ J = [] ∧ c = 1) ∨ (Clk A ∧ Clk B ∧ 8 < (jn [A, B]).length ∧ J = [] ∧ c = 5) ∨ (Clk A ∧ Clk B ∧ (jn [A, B]).length ≤ 8 ∧ J = jn [A, B] ∧ c = 0)
theorem JR.fn {A B J J' : List (Int × Int)} {c c' : Int} (h : JR A B J c) (k : JR A B J' c') : J' = J ∧ c' = c := by
  rcases h with ⟨h1, rfl, rfl⟩ | ⟨h1, h2, h3, rfl, rfl⟩ | ⟨h1, h2, h3, rfl, rfl⟩ <;> rcases k with ⟨k1, rfl, rfl⟩ | ⟨k1, k2, k3, rfl, rfl⟩ | ⟨k1, k2, k3, rfl, rfl⟩ <;> first
    | exact ⟨rfl, rfl⟩
    | exact absurd (And.intro h1 h2) (by rcases k1 with k | k <;> simp [k])
    | exact absurd (And.intro k1 k2) (by rcases h1 with k | k <;> simp [k])
    | omega
theorem JR.len {A B J : List (Int × Int)} {c : Int} (h : JR A B J c) : J.length ≤ 8 := by
  rcases h with ⟨_, rfl, _⟩ | ⟨_, _, _, rfl, _⟩ | ⟨_, _, h, rfl, _⟩
  · simp
  · simp
  · exact h
theorem JR.of {w w' : World} {A B : List (Int × Int)} {e : Ending} (h : JoinEnd w A B e w') : ∃ v J c, e = .returned (.tuple #[v, .int .i64 c]) ∧ JR A B J c ∧ w'.ownsRow w.heap.size 52 2 v J.length (cellsE J) := by
  rcases h with ⟨h1, he⟩ | ⟨h1, h2, h3, he⟩ | ⟨h1, h2, h3, v, he, ho⟩
  · exact ⟨_, [], 1, he, .inl ⟨h1, rfl, rfl⟩, World.ownsRow_nil _ _ _ _⟩
  · exact ⟨_, [], 5, he, .inr (.inl ⟨h1, h2, h3, rfl, rfl⟩), World.ownsRow_nil _ _ _ _⟩
  · exact ⟨_, _, 0, he, .inr (.inr ⟨h1, h2, h3, rfl, rfl⟩), ho⟩
theorem Join_u (v u : Value) (A B : List (Int × Int)) (w : World) (hv : Rd w v A) (hu : Rd w u B) :
    Calls Try.prog 10 #[v, u] w fun e w' => ∃ r J c, e = .returned (.tuple #[r, .int .i64 c]) ∧ JR A B J c ∧ w'.ownsRow w.heap.size 52 2 r J.length (cellsE J) ∧ Below w.heap.size w w' :=
  (Join_any v u A B w hv hu).mono fun e w' ⟨h, hb⟩ => by obtain ⟨r, J, c, a, b, d⟩ := JR.of h; exact ⟨r, J, c, a, b, d, hb⟩
theorem refJoin_u (v u : Value) (A B : List (Int × Int)) (w : World) (hv : Rd w v A) (hu : Rd w u B) :
    Calls Try.prog 11 #[v, u] w fun e w' => ∃ r J c, e = .returned (.tuple #[r, .int .i64 c]) ∧ JR A B J c ∧ w'.ownsRow w.heap.size 52 2 r J.length (cellsE J) ∧ Below w.heap.size w w' :=
  (refJoin_any v u A B w hv hu).mono fun e w' ⟨h, hb⟩ => by obtain ⟨r, J, c, a, b, d⟩ := JR.of h; exact ⟨r, J, c, a, b, d, hb⟩

/-- What Decode answers. -/
def DR (s : ByteArray) (J : List (Int × Int)) (c : Int) : Prop :=
  (¬ Dec s.data.toList ∧ J = [] ∧ c = 2) ∨ (Dec s.data.toList ∧ J = rdTo s.data.toList (hd s.data.toList) ∧ c = 0)
theorem DR.fn {s : ByteArray} {J J' : List (Int × Int)} {c c' : Int} (h : DR s J c) (k : DR s J' c') : J' = J ∧ c' = c := by
  rcases h with ⟨h1, rfl, rfl⟩ | ⟨h1, rfl, rfl⟩ <;> rcases k with ⟨k1, rfl, rfl⟩ | ⟨k1, rfl, rfl⟩ <;> first
    | exact ⟨rfl, rfl⟩
    | exact absurd h1 k1
    | exact absurd k1 h1
theorem DR.len {s : ByteArray} {J : List (Int × Int)} {c : Int} (h : DR s J c) : J.length ≤ 8 := by
  rcases h with ⟨_, rfl, _⟩ | ⟨h, rfl, _⟩
  · simp
  · exact h.2.2.1
theorem Decode_u (s : ByteArray) (w : World) (hs : s.size ≤ maxLen) :
    Calls Try.prog 18 #[.string s] w fun e w' => ∃ r J c, e = .returned (.tuple #[r, .int .i64 c]) ∧ DR s J c ∧ w'.ownsRow w.heap.size 52 2 r J.length (cellsE J) ∧ Below w.heap.size w w' :=
  (Decode_any s w hs).mono fun e w' ⟨hb, h⟩ => by
    rcases h with ⟨h1, he⟩ | ⟨h1, v, he, ho⟩
    · exact ⟨_, [], 2, he, .inl ⟨h1, rfl, rfl⟩, World.ownsRow_nil _ _ _ _, hb⟩
    · exact ⟨v, _, 0, he, .inr ⟨h1, rfl, rfl⟩, by rw [rdTo_len]; exact ho, hb⟩
theorem refDecode_u (s : ByteArray) (w : World) (hs : s.size ≤ maxLen) :
    Calls Try.prog 19 #[.string s] w fun e w' => ∃ r J c, e = .returned (.tuple #[r, .int .i64 c]) ∧ DR s J c ∧ w'.ownsRow w.heap.size 52 2 r J.length (cellsE J) ∧ Below w.heap.size w w' :=
  (refDecode_any s w hs).mono fun e w' ⟨h, hb⟩ => by
    rcases h with ⟨h1, he⟩ | ⟨h1, v, he, ho⟩
    · exact ⟨_, [], 2, he, .inl ⟨h1, rfl, rfl⟩, World.ownsRow_nil _ _ _ _, hb⟩
    · exact ⟨v, _, 0, he, .inr ⟨h1, rfl, rfl⟩, by rw [rdTo_len]; exact ho, hb⟩

/-- What Encode answers. -/
def ER (B : List (Int × Int)) (t : ByteArray) (c : Int) : Prop := (¬ Clk B ∧ t = ByteArray.empty ∧ c = 1) ∨ (Clk B ∧ t = strOfNums (encL B) ∧ c = 0)
theorem ER.fn {B : List (Int × Int)} {t t' : ByteArray} {c c' : Int} (h : ER B t c) (k : ER B t' c') : t' = t ∧ c' = c := by
  rcases h with ⟨h1, rfl, rfl⟩ | ⟨h1, rfl, rfl⟩ <;> rcases k with ⟨k1, rfl, rfl⟩ | ⟨k1, rfl, rfl⟩ <;> first
    | exact ⟨rfl, rfl⟩
    | exact absurd h1 k1
    | exact absurd k1 h1
theorem Encode_u (v : Value) (B : List (Int × Int)) (w : World) (hv : Rd w v B) :
    Calls Try.prog 16 #[v] w fun e w' => ∃ t c, e = .returned (.tuple #[.string t, .int .i64 c]) ∧ ER B t c ∧ Below w.heap.size w w' := by
  by_cases h : Clk B
  · exact (Encode_yes v B w hv h).mono fun e w' ⟨he, hb⟩ => ⟨_, _, he, .inr ⟨h, rfl, rfl⟩, hb⟩
  · exact (Encode_no v B w hv h).mono fun e w' ⟨he, hb⟩ => ⟨_, _, he, .inl ⟨h, rfl, rfl⟩, hb⟩
theorem refEncode_u (v : Value) (B : List (Int × Int)) (w : World) (hv : Rd w v B) :
    Calls Try.prog 17 #[v] w fun e w' => ∃ t c, e = .returned (.tuple #[.string t, .int .i64 c]) ∧ ER B t c ∧ Below w.heap.size w w' := by
  by_cases h : Clk B
  · exact (refEncode_yes v B w hv h).mono fun e w' ⟨he, hb⟩ => ⟨_, _, he, .inr ⟨h, rfl, rfl⟩, hb⟩
  · exact (refEncode_no v B w hv h).mono fun e w' ⟨he, hb⟩ => ⟨_, _, he, .inl ⟨h, rfl, rfl⟩, hb⟩

theorem same12_yes (v u : Value) (l m : List (Int × Int)) (w : World) (hv : Rd w v l) (hu : Rd w u m) (h : l = m) :
    Calls Try.prog 12 #[v, u] w fun e w' => e = .returned (.bool true) ∧ Below w.heap.size w w' :=
  (sameClock12_any v u l m w hv hu).mono fun e w' ⟨r, he, hr, hb⟩ => ⟨by rw [he, hr.2 h], hb⟩
theorem bare_rd (v u : Value) (l : List (Int × Int)) (w : World) (hv : Hd w v l) (hu : Rd w u l) (hl : l.length ≤ 8796093022208) :
    Calls Try.prog 9 #[v, u] w fun e w' => ∃ r, e = .returned r ∧ Rd w r l ∧ w' = w := by
  have hrv := hv.rd hl
  obtain ⟨g, rfl, hh⟩ := hv
  obtain ⟨a, cap, rfl, hlc, hc, hA⟩ := hu
  refine (bare_any _ _ _ _ _ _ w).mono fun e w' ⟨he, hw⟩ => ?_
  rcases he with he | ⟨ha, he⟩
  · exact ⟨_, he, hrv, hw⟩
  · have : l = [] := by
      by_cases h0 : 0 < l.length
      · obtain ⟨b, off, h1, _⟩ := hA h0
        rw [ha] at h1; cases h1
      · exact List.eq_nil_of_length_eq_zero (by omega)
    subst this
    exact ⟨_, he, Rd.nil w, hw⟩
theorem handed_hd (v : Value) (l : List (Int × Int)) (w : World) (hrd : Rd w v l) (hbig : l.length ≤ 8796093022208) :
    Calls Try.prog 8 #[v] w fun e w' => ∃ r, e = .returned r ∧ Hd w' r l ∧ Below w.heap.size w w' :=
  (handed_any v l w hrd hbig).mono fun e w' ⟨g, he, _, hh, hb⟩ => ⟨_, he, ⟨g, rfl, hh⟩, hb⟩
/-- fill, seen from ahead of the row's making: nothing there has turned; what was made behind the row neither. -/
theorem fill_own (W : World) (v : Value) (l : List (Int × Int)) (mark : Int) (w : World) (hown : w.ownsRow W.heap.size 52 2 v l.length (cellsE l)) (hl : l.length ≤ 8) (hW : Below W.heap.size W w) :
    Calls Try.prog 13 #[v, .int .i64 mark] w fun e w' => e = .returned (.tuple #[]) ∧ w'.ownsRow W.heap.size 52 2 v l.length (cellsE (mks mark l.length)) ∧ w.grownBy w' v.ownBlock ∧ Below W.heap.size W w' :=
  (fill_any W.heap.size v l mark w hown (by omega) hW.size).mono fun e w' ⟨he, ho, hg⟩ => ⟨he, ho, hg, hW.grown hg hW.size (fun q hq => (hown.lt q hq).1)⟩
/-- A row made behind another one is kept where the other one is filled. -/
theorem kept_behind {w w' : World} {C : Nat} {v u : Value} {m : Nat} {ys : List Value} (hu : w.ownsRow C 52 2 u m ys) (hv : ∀ q, v.ownBlock = some q → q < C) (hg : w.grownBy w' v.ownBlock) : w'.ownsRow C 52 2 u m ys := by
  refine hu.kept hg ?_
  cases hq : u.ownBlock with
  | none => exact .inl rfl
  | some q =>
    refine .inr fun e => ?_
    have h1 := (hu.lt q hq).1
    have h2 := hv q (by rw [← e])
    omega
theorem rd_mks {w : World} {B : Nat} {v : Value} {n : Nat} {mark : Int} (h : w.ownsRow B 52 2 v n (cellsE (mks mark n))) : Rd w v (mks mark n) := Rd.own h (by simp [mks])

set_option maxRecDepth 40000 in
set_option maxHeartbeats 2000000 in
theorem Clocks_any (a b : Value) (A B : List (Int × Int)) (node count : Int) (text : ByteArray) (w : World) (ha : Rd w a A) (hb : Rd w b B) (hA : A.length ≤ 8796093022208) (hB : B.length ≤ 8796093022208) (hs : text.size ≤ maxLen) :
    Calls Try.prog 3 #[a, b, .int .i64 node, .int .i64 count, .string text] w fun e w' => e = .returned (.bool true) ∧ Below w.heap.size w w' := by
  have HA : Hid (A.length ≤ 8796093022208) := hA
  have HB : Hid (B.length ≤ 8796093022208) := hB
  have HS : Hid (text.size ≤ maxLen) := hs
  clear hA hB hs
  go_enter Try.func3, Try.ntmps3
  go_wp2_with fail
  refine (handed_hd a A w ha HA.out).mono ?_
  rintro e1 w1 ⟨x, rfl, hx, g⟩
  go_wp2_with fail
  refine (handed_hd b B w1 (hb.below g) HB.out).mono ?_
  rintro e1 w2 ⟨y, rfl, hy, g2⟩
  have hx := hx.below g2
  have g := g.trans (g2.mono g.size)
  have ha := ha.below g
  have hb := hb.below g
  clear g2
  go_wp2_with fail
  refine (bare_rd x a A w2 hx ha HA.out).mono ?_
  rintro e1 wx ⟨xa, rfl, hxa, rfl⟩
  go_wp2_with fail
  refine (bare_rd y b B _ hy hb HB.out).mono ?_
  rintro e1 wx ⟨yb, rfl, hyb, rfl⟩
  obtain ⟨W, hW⟩ : ∃ W : World, W = wx := ⟨_, rfl⟩
  subst hW
  go_wp2_with fail
  refine (Join_u xa yb A B W hxa hyb).mono ?_
  rintro e1 w3 ⟨l, J, cj, rfl, jr, ol, G⟩
  have bl : Hid (∀ q, l.ownBlock = some q → q < w3.heap.size) := fun q hq => (ol.lt q hq).2
  have jlen : Hid (J.length ≤ 8) := jr.len
  go_wp2_with fail
  refine (refJoin_u a b A B w3 (ha.below G) (hb.below G)).mono ?_
  rintro e1 w4 ⟨m, J', cj', rfl, jr', om, G4⟩
  obtain ⟨rfl, rfl⟩ := jr.fn jr'
  have ol := own_below ol G4
  have G := G.trans (G4.mono G.size)
  clear jr' G4
  go_wp2_with fail
  refine (same12_yes l m J' J' w4 (Rd.own ol rfl) (Rd.own om rfl) rfl).mono ?_
  rintro e1 w5 ⟨rfl, G4⟩
  have ol := own_below ol G4
  have om := own_below om G4
  have G := G.trans (G4.mono G.size)
  clear G4
  go_wp2_with fail
  refine (fill_own W l J' (-1) w5 ol jlen.out G).mono ?_
  rintro e1 w6 ⟨rfl, ol, gr, G⟩
  have om := kept_behind om bl.out gr
  clear gr bl
  go_wp2_with fail
  refine (Join_u xa yb A B w6 (hxa.below G) (hyb.below G)).mono ?_
  rintro e1 w7 ⟨l2, J2, cj2, rfl, jr', o2, G4⟩
  obtain ⟨rfl, rfl⟩ := jr.fn jr'
  have rl := (rd_mks ol).below G4
  have om := own_below om G4
  have G := G.trans (G4.mono G.size)
  clear jr' G4 ol
  go_wp2_with fail
  refine (same12_yes l2 m J2 J2 w7 (Rd.own o2 rfl) (Rd.own om rfl) rfl).mono ?_
  rintro e1 w8 ⟨rfl, G4⟩
  have rl := rl.below G4
  have G := G.trans (G4.mono G.size)
  clear G4 om o2
  go_wp2_with fail
  refine (Covers_any xa A node count w8 (hxa.below G)).mono ?_
  rintro e1 w9 ⟨r1, rfl, hr1, G4⟩
  have rl := rl.below G4
  have G := G.trans (G4.mono G.size)
  clear G4
  go_wp2_with fail
  refine (refCovers_any a A node count w9 (ha.below G)).mono ?_
  rintro e1 w10 ⟨r2, rfl, hr2, G4⟩
  have rl := rl.below G4
  have G := G.trans (G4.mono G.size)
  obtain rfl : r1 = r2 := Bool.eq_iff_iff.2 (hr1.trans hr2.symm)
  clear G4 hr1 hr2
  go_wp2_with fail
  refine (Encode_u yb B w10 (hyb.below G)).mono ?_
  rintro e1 w11 ⟨t, ce, rfl, er, G4⟩
  have rl := rl.below G4
  have G := G.trans (G4.mono G.size)
  clear G4
  go_wp2_with fail
  refine (refEncode_u b B w11 (hb.below G)).mono ?_
  rintro e1 V ⟨t', ce', rfl, er', G4⟩
  have rl := rl.below G4
  have G := G.trans (G4.mono G.size)
  obtain ⟨rfl, rfl⟩ := er.fn er'
  clear G4 er er'
  go_wp2_with fail
  refine (Decode_u text V HS.out).mono ?_
  rintro e1 w13 ⟨c, D, cd, rfl, dr, oc, K⟩
  have bc : Hid (∀ q, c.ownBlock = some q → q < w13.heap.size) := fun q hq => (oc.lt q hq).2
  have dlen : Hid (D.length ≤ 8) := dr.len
  go_wp2_with fail
  refine (refDecode_u text w13 HS.out).mono ?_
  rintro e1 w14 ⟨d, D', cd', rfl, dr', od, G4⟩
  obtain ⟨rfl, rfl⟩ := dr.fn dr'
  have oc := own_below oc G4
  have K := K.trans (G4.mono K.size)
  clear dr' G4
  go_wp2_with fail
  refine (same12_yes c d D' D' w14 (Rd.own oc rfl) (Rd.own od rfl) rfl).mono ?_
  rintro e1 w15 ⟨rfl, G4⟩
  have oc := own_below oc G4
  have od := own_below od G4
  have K := K.trans (G4.mono K.size)
  clear G4
  go_wp2_with fail
  refine (fill_own V c D' (-4) w15 oc dlen.out K).mono ?_
  rintro e1 w16 ⟨rfl, oc, gr, K⟩
  have od := kept_behind od bc.out gr
  clear gr bc
  go_wp2_with fail
  refine (Decode_u text w16 HS.out).mono ?_
  rintro e1 w17 ⟨c2, D2, cd2, rfl, dr', o2, G4⟩
  obtain ⟨rfl, rfl⟩ := dr.fn dr'
  have rc := (rd_mks oc).below G4
  have od := own_below od G4
  have K := K.trans (G4.mono K.size)
  clear dr' G4 oc
  go_wp2_with fail
  refine (same12_yes c2 d D2 D2 w17 (Rd.own o2 rfl) (Rd.own od rfl) rfl).mono ?_
  rintro e1 w18 ⟨rfl, G4⟩
  have rc := rc.below G4
  have K := K.trans (G4.mono K.size)
  have G := G.trans (K.mono G.size)
  have rl := rl.below K
  clear G4 od o2 K
  go_wp2_with fail
  refine (intact_any x a A w18 (hx.below G) (ha.below G) HA.out).mono ?_
  rintro e1 w19 ⟨rfl, G4⟩
  have rc := rc.below G4
  have rl := rl.below G4
  have G := G.trans (G4.mono G.size)
  clear G4
  go_wp2_with fail
  refine (intact_any y b B w19 (hy.below G) (hb.below G) HB.out).mono ?_
  rintro e1 w20 ⟨rfl, G4⟩
  have rc := rc.below G4
  have rl := rl.below G4
  have G := G.trans (G4.mono G.size)
  clear G4
  go_wp2_with fail
  refine (filled_any l _ (-1) w20 rl).mono ?_
  rintro e1 w21 ⟨rfl, G4⟩
  have rc := rc.below G4
  have G := G.trans (G4.mono G.size)
  clear G4
  go_wp2_with fail
  refine (filled_any c _ (-4) w21 rc).mono ?_
  rintro e1 w22 ⟨rfl, G4⟩
  have G := G.trans (G4.mono G.size)
  have g := g.trans (G.mono g.size)
  clear G4 G rc rl hx hy ha hb hxa hyb jr dr
  go_wp2
  go_ret
  exact ⟨rfl, g⟩
end Go.Proofs.Ytkiipmdplpcfeaa
