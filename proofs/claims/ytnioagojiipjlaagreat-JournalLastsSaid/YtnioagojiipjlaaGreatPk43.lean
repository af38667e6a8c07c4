/-
  Some texts of one proof, one behind the other.
-/
import Derived.Test.YtnioagojiipjlaaGreatPk18
import Derived.Test.YtnioagojiipjlaaGreatPk20
import Derived.Test.YtnioagojiipjlaaGreatPk42
set_option linter.unusedVariables false
set_option linter.unusedSimpArgs false

/-
  The document's num, ReadHead and Read.
-/
namespace Go.Proofs.YtnioagojiipjlaaGreat
open Go.RowKit
theorem rnum_yes (s : ByteArray) (a k : Nat) (w : World) (hs : s.size ≤ 140737488351232) (h1 : 1 ≤ k) (h2 : k ≤ 4) (h : a + k ≤ s.size) :
    Calls Tryz.prog 69 #[.string s, .int .i64 (a : Int), .int .i64 (k : Int)] w fun e w' => e = .returned (.int .i64 (Mt.gn s.data.toList a k : Int)) ∧ w = w' := by
  have HG := Lib.hid (fun u => rget_yes s a k u hs h1 (by omega) h)
  have hl := Mt.gn_lt s.data.toList a k
  have hk : 256 ^ k ≤ 4294967296 := Nat.le_trans (Nat.pow_le_pow_right (by omega) h2) (by decide)
  generalize Mt.gn s.data.toList a k = n at *
  have hn : n < 4294967296 := by omega
  have hw : IntKind.i64.wrap (n : Int) = (n : Int) := IntWalk.i64_in _ (by omega)
  have hw2 : wrap64 (n : Int) = (n : Int) := by simp only [wrap64]; omega
  clear hl hk h1 h2 h hs hn
  go_enter Tryz.func69, Tryz.ntmps69
  go_wp2_with fail
  refine (HG.out _).mono ?_
  rintro e w1 ⟨rfl, rfl⟩
  go_wp2_with fail
  go_ret
  exact ⟨by first | rfl | rw [hw2], rfl⟩
theorem rnum_no (s : ByteArray) (a k : Nat) (w : World) (hs : s.size ≤ 140737488351232) (h1 : 1 ≤ k) (h2 : k ≤ 8) (h : s.size < a + k) :
    Calls Tryz.prog 69 #[.string s, .int .i64 (a : Int), .int .i64 (k : Int)] w fun e w' => e = .returned (.int .i64 0) ∧ w = w' := by
  have HG := Lib.hid (fun u => rget_far s (a : Int) (k : Int) u hs (by omega) (by omega) (by omega) (by omega))
  clear h1 h2 h hs
  go_enter Tryz.func69, Tryz.ntmps69
  go_wp2_with fail
  refine (HG.out _).mono ?_
  rintro e w1 ⟨rfl, rfl⟩
  go_wp2_with fail
  go_ret
  exact ⟨rfl, rfl⟩
/-- What ReadHead answers. -/
def rhdV (z : Bool) (g k : Nat) : Value := if z = true then .tuple #[.int .i64 0, .int .i64 0, .bool false] else .tuple #[.int .i64 (g : Int), .int .i64 (k : Int), .bool true]
set_option maxRecDepth 100000 in
theorem rrhead_yes (s : ByteArray) (w : World) (h : s.size = 128) (G H : Nat) (hG : Mt.gn s.data.toList 5 4 = G) (hH : Mt.gn s.data.toList 9 1 = H) (z : Bool) (hz : HdTest G H s z) :
    Calls Tryz.prog 42 #[.string s] w fun e w' => e = .returned (rhdV z G H) ∧ Below w.heap.size w w' := by
  have hGl : G < 4294967296 := by rw [← hG]; have := Mt.gn_lt s.data.toList 5 4; omega
  have hHl : H < 256 := by rw [← hH]; have := Mt.gn_lt s.data.toList 9 1; omega
  have HN1 : Hid (∀ u, Calls Tryz.prog 69 #[.string s, .int .i64 5, .int .i64 4] u fun e w' => e = .returned (.int .i64 (G : Int)) ∧ u = w') := Lib.hid (fun u => by have := rnum_yes s 5 4 u (by omega) (by omega) (by omega) (by omega); rw [hG] at this; exact this)
  have HN2 : Hid (∀ u, Calls Tryz.prog 69 #[.string s, .int .i64 9, .int .i64 1] u fun e w' => e = .returned (.int .i64 (H : Int)) ∧ u = w') := Lib.hid (fun u => by have := rnum_yes s 9 1 u (by omega) (by omega) (by omega) (by omega); rw [hH] at this; exact this)
  have HS : Hid (∀ u, Calls Tryz.prog 52 #[.int .i64 (G : Int), .int .i64 (H : Int)] u fun e w' => e = .returned (.string (Mt.str (Mt.hdSector G H))) ∧ Below u.heap.size u w') := Lib.hid (fun u => rhead_any G H hGl hHl u)
  clear hG hH h
  unfold HdTest at hz
  generalize Mt.str (Mt.hdSector G H) = S at *
  unfold rhdV
  rcases hz with ⟨rfl, hg, hh, hc⟩ | ⟨rfl, hg | ⟨hg, hh⟩ | ⟨hg, hh, hc⟩⟩
  · have d1 : decide ((G : Int) < 1) = false := decide_eq_false (by omega)
    have d1' : decide (G < 1) = false := decide_eq_false (by omega)
    have d2 : decide ((1 : Int) < (H : Int)) = false := decide_eq_false (by omega)
    have d2' : decide (1 < H) = false := decide_eq_false (by omega)
    have d3 : (S.toList == s.toList) = true := by rw [hc]; simp
    clear hc hg hh
    go_enter Tryz.func42, Tryz.ntmps42
    go_wp2_with fail
    refine (HN1.out _).mono ?_
    rintro e w1 ⟨rfl, rfl⟩
    go_wp2_with fail
    refine (HN2.out _).mono ?_
    rintro e w1 ⟨rfl, rfl⟩
    go_wp2_with fail
    refine (HS.out _).mono ?_
    rintro e w1 ⟨rfl, hb⟩
    have HB := Lib.hid hb
    clear hb
    go_wp2_with fail
    go_ret3
    exact ⟨rfl, HB.out⟩
  · have d1 : decide ((G : Int) < 1) = true := decide_eq_true (by omega)
    have d1' : decide (G < 1) = true := decide_eq_true (by omega)
    clear hg
    go_enter Tryz.func42, Tryz.ntmps42
    go_wp2_with fail
    refine (HN1.out _).mono ?_
    rintro e w1 ⟨rfl, rfl⟩
    go_wp2_with fail
    refine (HN2.out _).mono ?_
    rintro e w1 ⟨rfl, rfl⟩
    go_wp2_with fail
    go_ret3
    exact ⟨rfl, Below.refl _ _⟩
  · have d1 : decide ((G : Int) < 1) = false := decide_eq_false (by omega)
    have d1' : decide (G < 1) = false := decide_eq_false (by omega)
    have d2 : decide ((1 : Int) < (H : Int)) = true := decide_eq_true (by omega)
    have d2' : decide (1 < H) = true := decide_eq_true (by omega)
    clear hg hh
    go_enter Tryz.func42, Tryz.ntmps42
    go_wp2_with fail
    refine (HN1.out _).mono ?_
    rintro e w1 ⟨rfl, rfl⟩
    go_wp2_with fail
    refine (HN2.out _).mono ?_
    rintro e w1 ⟨rfl, rfl⟩
    go_wp2_with fail
    go_ret3
    exact ⟨rfl, Below.refl _ _⟩
  · have d1 : decide ((G : Int) < 1) = false := decide_eq_false (by omega)
    have d1' : decide (G < 1) = false := decide_eq_false (by omega)
    have d2 : decide ((1 : Int) < (H : Int)) = false := decide_eq_false (by omega)
    have d2' : decide (1 < H) = false := decide_eq_false (by omega)
    have d3 : (S.toList == s.toList) = false := by simpa using hc
    clear hc hg hh
    go_enter Tryz.func42, Tryz.ntmps42
    go_wp2_with fail
    refine (HN1.out _).mono ?_
    rintro e w1 ⟨rfl, rfl⟩
    go_wp2_with fail
    refine (HN2.out _).mono ?_
    rintro e w1 ⟨rfl, rfl⟩
    go_wp2_with fail
    refine (HS.out _).mono ?_
    rintro e w1 ⟨rfl, hb⟩
    have HB := Lib.hid hb
    clear hb
    go_wp2_with fail
    go_ret3
    exact ⟨rfl, HB.out⟩
/-- A sector read as a head. -/
theorem rrhead_any (l : List UInt8) (w : World) (h1 : l.length = 128) : Calls Tryz.prog 42 #[.string (Mt.str l)] w fun e w' => e = .returned (.tuple #[.int .i64 ((Mt.rdHead l).1 : Int), .int .i64 ((Mt.rdHead l).2 : Int), .bool (decide ((Mt.rdHead l).1 ≠ 0))]) ∧ Below w.heap.size w w' := by
  have hsz : (Mt.str l).size = 128 := by rw [Mt.str_size, h1]
  have hcmp : ∀ G H : Nat, (Mt.str (Mt.hdSector G H)).toList = (Mt.str l).toList ↔ Mt.hdSector G H = l := fun G H => by rw [ByteArray.toList_eq, ByteArray.toList_eq]; rfl
  obtain ⟨G, hG⟩ : ∃ G, Mt.gn l 5 4 = G := ⟨_, rfl⟩
  obtain ⟨H, hH⟩ : ∃ H, Mt.gn l 9 1 = H := ⟨_, rfl⟩
  by_cases hc : G ≠ 0 ∧ H ≤ 1 ∧ Mt.hdSector G H = l
  · have := rrhead_yes (Mt.str l) w hsz G H hG hH false (.inl ⟨rfl, hc.1, hc.2.1, (hcmp _ _).2 hc.2.2⟩)
    have e : Mt.rdHead l = (G, H) := by
      unfold Mt.rdHead
      rw [if_pos ⟨h1, by rw [← hc.2.2]; exact Mt.mark_head G H, by rw [hG]; exact hc.1, by rw [hH]; exact hc.2.1, by rw [hG, hH]; exact hc.2.2⟩, hG, hH]
    rw [e]
    have e2 : decide ((G, H).1 ≠ 0) = true := decide_eq_true hc.1
    rw [e2]
    exact this
  · have := rrhead_yes (Mt.str l) w hsz G H hG hH true (.inr ⟨rfl, by
        by_cases a : G = 0
        · exact .inl a
        · by_cases b : 1 < H
          · exact .inr (.inl ⟨a, b⟩)
          · exact .inr (.inr ⟨a, by omega, fun e => hc ⟨a, by omega, (hcmp _ _).1 e⟩⟩)⟩)
    have e : Mt.rdHead l = (0, 0) := by
      unfold Mt.rdHead
      rw [if_neg]
      rintro ⟨_, _, a, b, c⟩
      rw [hG] at a; rw [hH] at b; rw [hG, hH] at c
      exact hc ⟨a, b, c⟩
    rw [e]
    exact this
end Go.Proofs.YtnioagojiipjlaaGreat

/-
  The document's Read: a sector read as a cell.
-/
namespace Go.Proofs.YtnioagojiipjlaaGreat
open Go.RowKit
/-- A block of five cells. -/
def IsRow5 (w : World) (b : Nat) (x y z u v : Value) : Prop := w.heap[b]? = some (.cells #[x, y, z, u, v] 86 (0, 0))
/-- Which way Read goes. -/
inductive RdWay (G P Q n : Nat) (S s : ByteArray) : Bool → Prop
  | long (h : 110 < n) : RdWay G P Q n S s false
  | gen (h : n ≤ 110) (g : G = 0) : RdWay G P Q n S s false
  | part (h : n ≤ 110) (g : G ≠ 0) (p : Q ≤ P) : RdWay G P Q n S s false
  | other (h : n ≤ 110) (g : G ≠ 0) (p : P < Q) (c : S.toList ≠ s.toList) : RdWay G P Q n S s false
  | half (h : n ≤ 110) (g : G ≠ 0) (p : P < Q) (c : S.toList = s.toList) (l : P + 1 ≠ Q) (m : n ≠ 110) : RdWay G P Q n S s false
  | nought (h : n ≤ 110) (g : G ≠ 0) (p : P < Q) (c : S.toList = s.toList) (l : P + 1 = Q) (m : n = 0) (k : Q ≠ 1) : RdWay G P Q n S s false
  | mid (h : n ≤ 110) (g : G ≠ 0) (p : P < Q) (c : S.toList = s.toList) (l : P + 1 ≠ Q) (m : n = 110) : RdWay G P Q n S s true
  | last (h : n ≤ 110) (g : G ≠ 0) (p : P < Q) (c : S.toList = s.toList) (l : P + 1 = Q) (m : n ≠ 0) : RdWay G P Q n S s true
  | one (h : n ≤ 110) (g : G ≠ 0) (p : P < Q) (c : S.toList = s.toList) (l : P + 1 = Q) (m : n = 0) (k : Q = 1) : RdWay G P Q n S s true
theorem rdWay (G P Q n : Nat) (S s : ByteArray) : ∃ z, RdWay G P Q n S s z := by
  by_cases h : 110 < n
  · exact ⟨_, .long h⟩
  by_cases g : G = 0
  · exact ⟨_, .gen (by omega) g⟩
  by_cases p : Q ≤ P
  · exact ⟨_, .part (by omega) g p⟩
  by_cases c : S.toList = s.toList
  · by_cases l : P + 1 = Q
    · by_cases m : n = 0
      · by_cases k : Q = 1
        · exact ⟨_, .one (by omega) g (by omega) c l m k⟩
        · exact ⟨_, .nought (by omega) g (by omega) c l m k⟩
      · exact ⟨_, .last (by omega) g (by omega) c l m⟩
    · by_cases m : n = 110
      · exact ⟨_, .mid (by omega) g (by omega) c l m⟩
      · exact ⟨_, .half (by omega) g (by omega) c l m⟩
  · exact ⟨_, .other (by omega) g (by omega) c⟩
/-- What Read answers of such a cell. -/
def rrdV (z : Bool) (c : Mt.Cl) : Value := if z = true then .tuple #[.agg (rclV c), .bool true] else .tuple #[.agg (rclV Mt.Cl.zero), .bool false]
def rzV : Array Value := #[.int .i64 0, .int .i64 0, .int .i64 0, .int .i64 0, .string ⟨#[]⟩]
theorem rzV_eq : rclV Mt.Cl.zero = rzV := rfl
set_option maxRecDepth 100000 in
set_option maxHeartbeats 1000000 in
theorem rread_way (s : ByteArray) (w : World) (h : s.size = 128) (G N P Q n : Nat) (B : List UInt8) (hn : Mt.gn s.data.toList 17 1 = n) (hG : Mt.gn s.data.toList 5 4 = G) (hN : Mt.gn s.data.toList 9 4 = N) (hP : Mt.gn s.data.toList 13 2 = P) (hQ : Mt.gn s.data.toList 15 2 = Q)
    (hB : (s.data.toList.drop 18).take n = B) (z : Bool) (hz : RdWay G P Q n (Mt.str (Mt.Cl.sector ⟨G, N, P, Q, B⟩)) s z) :
    Calls Tryz.prog 43 #[.string s] w fun e w' => e = .returned (rrdV z ⟨G, N, P, Q, B⟩) ∧ Below w.heap.size w w' := by
  have hGl : G < 4294967296 := by rw [← hG]; have := Mt.gn_lt s.data.toList 5 4; omega
  have hNl : N < 4294967296 := by rw [← hN]; have := Mt.gn_lt s.data.toList 9 4; omega
  have hPl : P < 65536 := by rw [← hP]; have := Mt.gn_lt s.data.toList 13 2; omega
  have hQl : Q < 65536 := by rw [← hQ]; have := Mt.gn_lt s.data.toList 15 2; omega
  have hnl : n < 256 := by rw [← hn]; have := Mt.gn_lt s.data.toList 17 1; omega
  have HN1 : Hid (∀ u, Calls Tryz.prog 69 #[.string s, .int .i64 5, .int .i64 4] u fun e w' => e = .returned (.int .i64 (G : Int)) ∧ u = w') := Lib.hid (fun u => by have := rnum_yes s 5 4 u (by omega) (by omega) (by omega) (by omega); rw [hG] at this; exact this)
  have HN2 : Hid (∀ u, Calls Tryz.prog 69 #[.string s, .int .i64 9, .int .i64 4] u fun e w' => e = .returned (.int .i64 (N : Int)) ∧ u = w') := Lib.hid (fun u => by have := rnum_yes s 9 4 u (by omega) (by omega) (by omega) (by omega); rw [hN] at this; exact this)
  have HN3 : Hid (∀ u, Calls Tryz.prog 69 #[.string s, .int .i64 13, .int .i64 2] u fun e w' => e = .returned (.int .i64 (P : Int)) ∧ u = w') := Lib.hid (fun u => by have := rnum_yes s 13 2 u (by omega) (by omega) (by omega) (by omega); rw [hP] at this; exact this)
  have HN4 : Hid (∀ u, Calls Tryz.prog 69 #[.string s, .int .i64 15, .int .i64 2] u fun e w' => e = .returned (.int .i64 (Q : Int)) ∧ u = w') := Lib.hid (fun u => by have := rnum_yes s 15 2 u (by omega) (by omega) (by omega) (by omega); rw [hQ] at this; exact this)
  have HN5 : Hid (∀ u, Calls Tryz.prog 69 #[.string s, .int .i64 17, .int .i64 1] u fun e w' => e = .returned (.int .i64 (n : Int)) ∧ u = w') := Lib.hid (fun u => by have := rnum_yes s 17 1 u (by omega) (by omega) (by omega) (by omega); rw [hn] at this; exact this)
  have HSEC : Hid (n ≤ 110 → ∀ u, Calls Tryz.prog 70 #[.agg #[.int .i64 (G : Int), .int .i64 (N : Int), .int .i64 (P : Int), .int .i64 (Q : Int), .string (Mt.str B)]] u fun e w' => e = .returned (.string (Mt.str (Mt.Cl.sector ⟨G, N, P, Q, B⟩))) ∧ Below u.heap.size u w') := Lib.hid (fun h1 u => rsector_any ⟨G, N, P, Q, B⟩ ⟨hGl, hNl, hPl, hQl, by show B.length ≤ 110; rw [← hB, List.length_take]; omega⟩ u)
  have HEX := Lib.hid (show s.extract 18 (18 + n) = Mt.str B by rw [Mt.ext_list, hB])
  have hdz := heap_alloc_new w (.cells #[.int .i64 0, .int .i64 0, .int .i64 0, .int .i64 0, .string ⟨#[]⟩] 86)
  have HB0 := Lib.hid ((Below.refl w.heap.size w).alloc (Nat.le_refl _) (.cells #[.int .i64 0, .int .i64 0, .int .i64 0, .int .i64 0, .string ⟨#[]⟩] 86))
  have hz2 : (w.alloc (.cells #[.int .i64 0, .int .i64 0, .int .i64 0, .int .i64 0, .string ⟨#[]⟩] 86)).heap.size = w.heap.size + 1 := by simp
  have HD0 := Lib.hid hdz
  have HZ2 := Lib.hid hz2
  unfold rrdV
  rw [rzV_eq]
  unfold rclV rzV
  simp only
  clear hG hN hP hQ hn hB hdz hz2
  generalize Mt.str (Mt.Cl.sector ⟨G, N, P, Q, B⟩) = S at *
  generalize Mt.str B = D at *
  go_enter Tryz.func43, Tryz.ntmps43
  go_wp2_with fail
  refine (HN1.out _).mono ?_
  rintro e w1 ⟨rfl, rfl⟩
  go_wp2_with fail
  refine (HN2.out _).mono ?_
  rintro e w1 ⟨rfl, rfl⟩
  go_wp2_with fail
  refine (HN3.out _).mono ?_
  rintro e w1 ⟨rfl, rfl⟩
  go_wp2_with fail
  refine (HN4.out _).mono ?_
  rintro e w1 ⟨rfl, rfl⟩
  go_wp2_with fail
  refine (HN5.out _).mono ?_
  rintro e w1 ⟨rfl, rfl⟩
  obtain ⟨W, hW⟩ : ∃ W, (w.alloc (.cells #[.int .i64 0, .int .i64 0, .int .i64 0, .int .i64 0, .string ⟨#[]⟩] 86)).alloc (.cells #[.int .i64 (G : Int), .int .i64 (N : Int), .int .i64 (P : Int), .int .i64 (Q : Int), .string ⟨#[]⟩] 86) = W := ⟨_, rfl⟩
  have hba := (Below.refl _ (w.alloc (.cells #[.int .i64 0, .int .i64 0, .int .i64 0, .int .i64 0, .string ⟨#[]⟩] 86))).alloc (Nat.le_refl _) (.cells #[.int .i64 (G : Int), .int .i64 (N : Int), .int .i64 (P : Int), .int .i64 (Q : Int), .string ⟨#[]⟩] 86)
  have hrd := (hba.block w.heap.size (by rw [HZ2.out]; omega)).trans HD0.out
  have hrc := heap_alloc_new (w.alloc (.cells #[.int .i64 0, .int .i64 0, .int .i64 0, .int .i64 0, .string ⟨#[]⟩] 86)) (.cells #[.int .i64 (G : Int), .int .i64 (N : Int), .int .i64 (P : Int), .int .i64 (Q : Int), .string ⟨#[]⟩] 86)
  rw [HZ2.out] at hrc
  have hbw := HB0.out.trans (hba.mono HB0.out.size)
  rw [hW] at hrd hrc hbw
  have HRD := Lib.hid hrd
  have HRC := Lib.hid hrc
  have HBW := Lib.hid hbw
  have HLT := Lib.hid (lt_of_block hrc)
  obtain ⟨c0, c1, c2, c3, c4⟩ := box5_of hrc
  have f0 := frozen_of_row _ w.heap.size 0 _ _ hrd
  have f1 := frozen_of_row _ w.heap.size 1 _ _ hrd
  have f2 := frozen_of_row _ w.heap.size 2 _ _ hrd
  have f3 := frozen_of_row _ w.heap.size 3 _ _ hrd
  have f4 := frozen_of_row _ w.heap.size 4 _ _ hrd
  obtain ⟨b0, b1, b2, b3, b4⟩ := box5_of hrd
  have g4 := frozen_of_row _ (w.heap.size + 1) 4 _ _ hrc
  clear hba hrd hrc hbw
  -- behind the store of the bytes
  have HST : Hid (IsRow5 (W.setCell ⟨w.heap.size + 1, 4, none⟩ (.string D)) (w.heap.size + 1) (.int .i64 (G : Int)) (.int .i64 (N : Int)) (.int .i64 (P : Int)) (.int .i64 (Q : Int)) (.string D) ∧ IsRow5 (W.setCell ⟨w.heap.size + 1, 4, none⟩ (.string D)) w.heap.size (.int .i64 0) (.int .i64 0) (.int .i64 0) (.int .i64 0) (.string ⟨#[]⟩) ∧ Below w.heap.size w (W.setCell ⟨w.heap.size + 1, 4, none⟩ (.string D))) := Lib.hid (by
    refine ⟨?_, ?_, HBW.out.setCell (by simp) _⟩
    · unfold IsRow5; rw [heap_setCell_same (w := W) _ _ _ _ _ HRC.out]; rfl
    · unfold IsRow5; rw [heap_setCell_other _ _ _ _ (by simp)]; exact HRD.out)
  rcases hz with ⟨h1⟩ | ⟨h1, h2⟩ | ⟨h1, h2, h3⟩ | ⟨h1, h2, h3, hc⟩ | ⟨h1, h2, h3, hc, h4, h5⟩ | ⟨h1, h2, h3, hc, h4, h5, h6⟩ | ⟨h1, h2, h3, hc, h4, h5⟩ | ⟨h1, h2, h3, hc, h4, h5⟩ | ⟨h1, h2, h3, hc, h4, h5, h6⟩
  · have d1 : decide ((110 : Int) < (n : Int)) = true := decide_eq_true (by omega)
    have d1' : decide (110 < n) = true := decide_eq_true (by omega)
    rw [hW]
    clear h1 hW
    go_wp2_with fail
    refine bodyPost_ret (v := .tuple #[.agg #[.int .i64 0, .int .i64 0, .int .i64 0, .int .i64 0, .string ⟨#[]⟩], .bool false]) (by simp [results, Tryz.results43, go_sem, b0, b1, b2, b3, b4]) rfl ⟨rfl, cbox_below HBW.out (Nat.le_refl _) _ _ _ _ _⟩
  · skip
    have d1 : decide ((110 : Int) < (n : Int)) = false := decide_eq_false (by omega)
    have d1' : decide (110 < n) = false := decide_eq_false (by omega)
    have d2 : decide ((G : Int) < 1) = true := decide_eq_true (by omega)
    have d2' : decide (G < 1) = true := decide_eq_true (by omega)
    rw [hW]
    clear h1 h2 hW
    go_wp2_with fail
    refine bodyPost_ret (v := .tuple #[.agg #[.int .i64 0, .int .i64 0, .int .i64 0, .int .i64 0, .string ⟨#[]⟩], .bool false]) (by simp [results, Tryz.results43, go_sem, b0, b1, b2, b3, b4]) rfl ⟨rfl, cbox_below HBW.out (Nat.le_refl _) _ _ _ _ _⟩
  · skip
    have d1 : decide ((110 : Int) < (n : Int)) = false := decide_eq_false (by omega)
    have d1' : decide (110 < n) = false := decide_eq_false (by omega)
    have d2 : decide ((G : Int) < 1) = false := decide_eq_false (by omega)
    have d2' : decide (G < 1) = false := decide_eq_false (by omega)
    have d3 : decide ((Q : Int) ≤ (P : Int)) = true := decide_eq_true (by omega)
    have d3' : decide (Q ≤ P) = true := decide_eq_true (by omega)
    rw [hW]
    clear h1 h2 h3 hW
    go_wp2_with fail
    refine bodyPost_ret (v := .tuple #[.agg #[.int .i64 0, .int .i64 0, .int .i64 0, .int .i64 0, .string ⟨#[]⟩], .bool false]) (by simp [results, Tryz.results43, go_sem, b0, b1, b2, b3, b4]) rfl ⟨rfl, cbox_below HBW.out (Nat.le_refl _) _ _ _ _ _⟩
  · skip
    have d1 : decide ((110 : Int) < (n : Int)) = false := decide_eq_false (by omega)
    have d1' : decide (110 < n) = false := decide_eq_false (by omega)
    have d2 : decide ((G : Int) < 1) = false := decide_eq_false (by omega)
    have d2' : decide (G < 1) = false := decide_eq_false (by omega)
    have d3 : decide ((Q : Int) ≤ (P : Int)) = false := decide_eq_false (by omega)
    have d3' : decide (Q ≤ P) = false := decide_eq_false (by omega)
    have HS2 := Lib.hid (HSEC.out h1)
    have e0 : (0 : Int) ≤ 18 + (n : Int) := by omega
    have e1 : (18 : Int) ≤ 18 + (n : Int) := by omega
    have e2 : (18 : Int) + (n : Int) ≤ (s.size : Int) := by omega
    have e3 : ((18 : Int) + (n : Int)).toNat = 18 + n := by omega
    have e4 : 18 + n ≤ s.size := by omega
    have ew : wrap64 ((18 : Int) + (n : Int)) = 18 + (n : Int) := by simp only [wrap64]; omega
    have d4 : (S.toList == s.toList) = false := by simpa using hc
    rw [hW]
    clear h1 h2 h3 hW hc 
    clear b0 b1 b2 b3 b4 f0 f1 f2 f3 f4
    go_wp2_with fail
    rw [HEX.out]
    generalize W.setCell ⟨w.heap.size + 1, 4, none⟩ (.string D) = V at *
    have hv1 := HST.out.1
    have hv2 := HST.out.2.1
    unfold IsRow5 at hv1 hv2
    have HV1 := Lib.hid hv1
    have HV2 := Lib.hid hv2
    have HVB := Lib.hid HST.out.2.2
    obtain ⟨k0, k1, k2, k3, k4⟩ := box5_of hv1
    clear HST hv1 hv2
    go_wp2_with fail
    refine (HS2.out _).mono ?_
    rintro e w2 ⟨rfl, hb⟩
    have hv1 := (hb.block _ (lt_of_block HV1.out)).trans HV1.out
    have hv2 := (hb.block _ (lt_of_block HV2.out)).trans HV2.out
    have HBX := Lib.hid (HVB.out.trans (hb.mono HVB.out.size))
    obtain ⟨x0, x1, x2, x3, x4⟩ := box5_of hv1
    obtain ⟨y0, y1, y2, y3, y4⟩ := box5_of hv2
    have z0 := frozen_of_row _ w.heap.size 0 _ _ hv2
    have z1 := frozen_of_row _ w.heap.size 1 _ _ hv2
    have z2 := frozen_of_row _ w.heap.size 2 _ _ hv2
    have z3 := frozen_of_row _ w.heap.size 3 _ _ hv2
    have z4 := frozen_of_row _ w.heap.size 4 _ _ hv2
    clear hb hv1 hv2 k0 k1 k2 k3 k4
    go_wp2_with fail
    refine bodyPost_ret (v := .tuple #[.agg #[.int .i64 0, .int .i64 0, .int .i64 0, .int .i64 0, .string ⟨#[]⟩], .bool false]) (by simp [results, Tryz.results43, go_sem, y0, y1, y2, y3, y4]) rfl ⟨rfl, cbox_below HBX.out (Nat.le_refl _) _ _ _ _ _⟩
  · skip
    have d1 : decide ((110 : Int) < (n : Int)) = false := decide_eq_false (by omega)
    have d1' : decide (110 < n) = false := decide_eq_false (by omega)
    have d2 : decide ((G : Int) < 1) = false := decide_eq_false (by omega)
    have d2' : decide (G < 1) = false := decide_eq_false (by omega)
    have d3 : decide ((Q : Int) ≤ (P : Int)) = false := decide_eq_false (by omega)
    have d3' : decide (Q ≤ P) = false := decide_eq_false (by omega)
    have HS2 := Lib.hid (HSEC.out h1)
    have e0 : (0 : Int) ≤ 18 + (n : Int) := by omega
    have e1 : (18 : Int) ≤ 18 + (n : Int) := by omega
    have e2 : (18 : Int) + (n : Int) ≤ (s.size : Int) := by omega
    have e3 : ((18 : Int) + (n : Int)).toNat = 18 + n := by omega
    have e4 : 18 + n ≤ s.size := by omega
    have ew : wrap64 ((18 : Int) + (n : Int)) = 18 + (n : Int) := by simp only [wrap64]; omega
    have d4 : (S.toList == s.toList) = true := by rw [hc]; simp
    have d5 : ((P : Int) + 1 == (Q : Int)) = false := beq_eq_false_iff_ne.2 (by omega)
    have dw : wrap64 ((P : Int) + 1) = (P : Int) + 1 := by simp only [wrap64]; omega
    have d6 : ((n : Int) != 110) = true := by simp; omega
    have d6' : ((n : Int) == 110) = false := beq_eq_false_iff_ne.2 (by omega)
    rw [hW]
    clear h1 h2 h3 hW hc h4 h5
    clear b0 b1 b2 b3 b4 f0 f1 f2 f3 f4
    go_wp2_with fail
    rw [HEX.out]
    generalize W.setCell ⟨w.heap.size + 1, 4, none⟩ (.string D) = V at *
    have hv1 := HST.out.1
    have hv2 := HST.out.2.1
    unfold IsRow5 at hv1 hv2
    have HV1 := Lib.hid hv1
    have HV2 := Lib.hid hv2
    have HVB := Lib.hid HST.out.2.2
    obtain ⟨k0, k1, k2, k3, k4⟩ := box5_of hv1
    clear HST hv1 hv2
    go_wp2_with fail
    refine (HS2.out _).mono ?_
    rintro e w2 ⟨rfl, hb⟩
    have hv1 := (hb.block _ (lt_of_block HV1.out)).trans HV1.out
    have hv2 := (hb.block _ (lt_of_block HV2.out)).trans HV2.out
    have HBX := Lib.hid (HVB.out.trans (hb.mono HVB.out.size))
    obtain ⟨x0, x1, x2, x3, x4⟩ := box5_of hv1
    obtain ⟨y0, y1, y2, y3, y4⟩ := box5_of hv2
    have z0 := frozen_of_row _ w.heap.size 0 _ _ hv2
    have z1 := frozen_of_row _ w.heap.size 1 _ _ hv2
    have z2 := frozen_of_row _ w.heap.size 2 _ _ hv2
    have z3 := frozen_of_row _ w.heap.size 3 _ _ hv2
    have z4 := frozen_of_row _ w.heap.size 4 _ _ hv2
    clear hb hv1 hv2 k0 k1 k2 k3 k4
    go_wp2_with fail
    refine bodyPost_ret (v := .tuple #[.agg #[.int .i64 0, .int .i64 0, .int .i64 0, .int .i64 0, .string ⟨#[]⟩], .bool false]) (by simp [results, Tryz.results43, go_sem, y0, y1, y2, y3, y4]) rfl ⟨rfl, cbox_below HBX.out (Nat.le_refl _) _ _ _ _ _⟩
  · skip
    have d1 : decide ((110 : Int) < (n : Int)) = false := decide_eq_false (by omega)
    have d1' : decide (110 < n) = false := decide_eq_false (by omega)
    have d2 : decide ((G : Int) < 1) = false := decide_eq_false (by omega)
    have d2' : decide (G < 1) = false := decide_eq_false (by omega)
    have d3 : decide ((Q : Int) ≤ (P : Int)) = false := decide_eq_false (by omega)
    have d3' : decide (Q ≤ P) = false := decide_eq_false (by omega)
    have HS2 := Lib.hid (HSEC.out h1)
    have e0 : (0 : Int) ≤ 18 + (n : Int) := by omega
    have e1 : (18 : Int) ≤ 18 + (n : Int) := by omega
    have e2 : (18 : Int) + (n : Int) ≤ (s.size : Int) := by omega
    have e3 : ((18 : Int) + (n : Int)).toNat = 18 + n := by omega
    have e4 : 18 + n ≤ s.size := by omega
    have ew : wrap64 ((18 : Int) + (n : Int)) = 18 + (n : Int) := by simp only [wrap64]; omega
    have d4 : (S.toList == s.toList) = true := by rw [hc]; simp
    have d5 : ((P : Int) + 1 == (Q : Int)) = true := beq_iff_eq.2 (by omega)
    have dw : wrap64 ((P : Int) + 1) = (P : Int) + 1 := by simp only [wrap64]; omega
    have d6 : ((n : Int) == 0) = true := beq_iff_eq.2 (by omega)
    have d7 : ((Q : Int) != 1) = true := by simp; omega
    have d7' : ((Q : Int) == 1) = false := beq_eq_false_iff_ne.2 (by omega)
    rw [hW]
    clear h1 h2 h3 hW hc h4 h5 h6
    clear b0 b1 b2 b3 b4 f0 f1 f2 f3 f4
    go_wp2_with fail
    rw [HEX.out]
    generalize W.setCell ⟨w.heap.size + 1, 4, none⟩ (.string D) = V at *
    have hv1 := HST.out.1
    have hv2 := HST.out.2.1
    unfold IsRow5 at hv1 hv2
    have HV1 := Lib.hid hv1
    have HV2 := Lib.hid hv2
    have HVB := Lib.hid HST.out.2.2
    obtain ⟨k0, k1, k2, k3, k4⟩ := box5_of hv1
    clear HST hv1 hv2
    go_wp2_with fail
    refine (HS2.out _).mono ?_
    rintro e w2 ⟨rfl, hb⟩
    have hv1 := (hb.block _ (lt_of_block HV1.out)).trans HV1.out
    have hv2 := (hb.block _ (lt_of_block HV2.out)).trans HV2.out
    have HBX := Lib.hid (HVB.out.trans (hb.mono HVB.out.size))
    obtain ⟨x0, x1, x2, x3, x4⟩ := box5_of hv1
    obtain ⟨y0, y1, y2, y3, y4⟩ := box5_of hv2
    have z0 := frozen_of_row _ w.heap.size 0 _ _ hv2
    have z1 := frozen_of_row _ w.heap.size 1 _ _ hv2
    have z2 := frozen_of_row _ w.heap.size 2 _ _ hv2
    have z3 := frozen_of_row _ w.heap.size 3 _ _ hv2
    have z4 := frozen_of_row _ w.heap.size 4 _ _ hv2
    clear hb hv1 hv2 k0 k1 k2 k3 k4
    go_wp2_with fail
    refine bodyPost_ret (v := .tuple #[.agg #[.int .i64 0, .int .i64 0, .int .i64 0, .int .i64 0, .string ⟨#[]⟩], .bool false]) (by simp [results, Tryz.results43, go_sem, y0, y1, y2, y3, y4]) rfl ⟨rfl, cbox_below HBX.out (Nat.le_refl _) _ _ _ _ _⟩
  · skip
    have d1 : decide ((110 : Int) < (n : Int)) = false := decide_eq_false (by omega)
    have d1' : decide (110 < n) = false := decide_eq_false (by omega)
    have d2 : decide ((G : Int) < 1) = false := decide_eq_false (by omega)
    have d2' : decide (G < 1) = false := decide_eq_false (by omega)
    have d3 : decide ((Q : Int) ≤ (P : Int)) = false := decide_eq_false (by omega)
    have d3' : decide (Q ≤ P) = false := decide_eq_false (by omega)
    have HS2 := Lib.hid (HSEC.out h1)
    have e0 : (0 : Int) ≤ 18 + (n : Int) := by omega
    have e1 : (18 : Int) ≤ 18 + (n : Int) := by omega
    have e2 : (18 : Int) + (n : Int) ≤ (s.size : Int) := by omega
    have e3 : ((18 : Int) + (n : Int)).toNat = 18 + n := by omega
    have e4 : 18 + n ≤ s.size := by omega
    have ew : wrap64 ((18 : Int) + (n : Int)) = 18 + (n : Int) := by simp only [wrap64]; omega
    have d4 : (S.toList == s.toList) = true := by rw [hc]; simp
    have d5 : ((P : Int) + 1 == (Q : Int)) = false := beq_eq_false_iff_ne.2 (by omega)
    have dw : wrap64 ((P : Int) + 1) = (P : Int) + 1 := by simp only [wrap64]; omega
    have d6 : ((n : Int) != 110) = false := by simp; omega
    have d6' : ((n : Int) == 110) = true := beq_iff_eq.2 (by omega)
    rw [hW]
    clear h1 h2 h3 hW hc h4 h5
    clear b0 b1 b2 b3 b4 f0 f1 f2 f3 f4
    go_wp2_with fail
    rw [HEX.out]
    generalize W.setCell ⟨w.heap.size + 1, 4, none⟩ (.string D) = V at *
    have hv1 := HST.out.1
    have hv2 := HST.out.2.1
    unfold IsRow5 at hv1 hv2
    have HV1 := Lib.hid hv1
    have HV2 := Lib.hid hv2
    have HVB := Lib.hid HST.out.2.2
    obtain ⟨k0, k1, k2, k3, k4⟩ := box5_of hv1
    clear HST hv1 hv2
    go_wp2_with fail
    refine (HS2.out _).mono ?_
    rintro e w2 ⟨rfl, hb⟩
    have hv1 := (hb.block _ (lt_of_block HV1.out)).trans HV1.out
    have hv2 := (hb.block _ (lt_of_block HV2.out)).trans HV2.out
    have HBX := Lib.hid (HVB.out.trans (hb.mono HVB.out.size))
    obtain ⟨x0, x1, x2, x3, x4⟩ := box5_of hv1
    obtain ⟨y0, y1, y2, y3, y4⟩ := box5_of hv2
    have z0 := frozen_of_row _ w.heap.size 0 _ _ hv2
    have z1 := frozen_of_row _ w.heap.size 1 _ _ hv2
    have z2 := frozen_of_row _ w.heap.size 2 _ _ hv2
    have z3 := frozen_of_row _ w.heap.size 3 _ _ hv2
    have z4 := frozen_of_row _ w.heap.size 4 _ _ hv2
    clear hb hv1 hv2 k0 k1 k2 k3 k4
    go_wp2_with fail
    refine bodyPost_ret (v := .tuple #[.agg #[.int .i64 (G : Int), .int .i64 (N : Int), .int .i64 (P : Int), .int .i64 (Q : Int), .string D], .bool true]) (by simp [results, Tryz.results43, go_sem, y0, y1, y2, y3, y4]) rfl ⟨rfl, cbox_below HBX.out (Nat.le_refl _) _ _ _ _ _⟩
  · skip
    have d1 : decide ((110 : Int) < (n : Int)) = false := decide_eq_false (by omega)
    have d1' : decide (110 < n) = false := decide_eq_false (by omega)
    have d2 : decide ((G : Int) < 1) = false := decide_eq_false (by omega)
    have d2' : decide (G < 1) = false := decide_eq_false (by omega)
    have d3 : decide ((Q : Int) ≤ (P : Int)) = false := decide_eq_false (by omega)
    have d3' : decide (Q ≤ P) = false := decide_eq_false (by omega)
    have HS2 := Lib.hid (HSEC.out h1)
    have e0 : (0 : Int) ≤ 18 + (n : Int) := by omega
    have e1 : (18 : Int) ≤ 18 + (n : Int) := by omega
    have e2 : (18 : Int) + (n : Int) ≤ (s.size : Int) := by omega
    have e3 : ((18 : Int) + (n : Int)).toNat = 18 + n := by omega
    have e4 : 18 + n ≤ s.size := by omega
    have ew : wrap64 ((18 : Int) + (n : Int)) = 18 + (n : Int) := by simp only [wrap64]; omega
    have d4 : (S.toList == s.toList) = true := by rw [hc]; simp
    have d5 : ((P : Int) + 1 == (Q : Int)) = true := beq_iff_eq.2 (by omega)
    have dw : wrap64 ((P : Int) + 1) = (P : Int) + 1 := by simp only [wrap64]; omega
    have d6 : ((n : Int) == 0) = false := beq_eq_false_iff_ne.2 (by omega)
    rw [hW]
    clear h1 h2 h3 hW hc h4 h5
    clear b0 b1 b2 b3 b4 f0 f1 f2 f3 f4
    go_wp2_with fail
    rw [HEX.out]
    generalize W.setCell ⟨w.heap.size + 1, 4, none⟩ (.string D) = V at *
    have hv1 := HST.out.1
    have hv2 := HST.out.2.1
    unfold IsRow5 at hv1 hv2
    have HV1 := Lib.hid hv1
    have HV2 := Lib.hid hv2
    have HVB := Lib.hid HST.out.2.2
    obtain ⟨k0, k1, k2, k3, k4⟩ := box5_of hv1
    clear HST hv1 hv2
    go_wp2_with fail
    refine (HS2.out _).mono ?_
    rintro e w2 ⟨rfl, hb⟩
    have hv1 := (hb.block _ (lt_of_block HV1.out)).trans HV1.out
    have hv2 := (hb.block _ (lt_of_block HV2.out)).trans HV2.out
    have HBX := Lib.hid (HVB.out.trans (hb.mono HVB.out.size))
    obtain ⟨x0, x1, x2, x3, x4⟩ := box5_of hv1
    obtain ⟨y0, y1, y2, y3, y4⟩ := box5_of hv2
    have z0 := frozen_of_row _ w.heap.size 0 _ _ hv2
    have z1 := frozen_of_row _ w.heap.size 1 _ _ hv2
    have z2 := frozen_of_row _ w.heap.size 2 _ _ hv2
    have z3 := frozen_of_row _ w.heap.size 3 _ _ hv2
    have z4 := frozen_of_row _ w.heap.size 4 _ _ hv2
    clear hb hv1 hv2 k0 k1 k2 k3 k4
    go_wp2_with fail
    refine bodyPost_ret (v := .tuple #[.agg #[.int .i64 (G : Int), .int .i64 (N : Int), .int .i64 (P : Int), .int .i64 (Q : Int), .string D], .bool true]) (by simp [results, Tryz.results43, go_sem, y0, y1, y2, y3, y4]) rfl ⟨rfl, cbox_below HBX.out (Nat.le_refl _) _ _ _ _ _⟩
  · skip
    have d1 : decide ((110 : Int) < (n : Int)) = false := decide_eq_false (by omega)
    have d1' : decide (110 < n) = false := decide_eq_false (by omega)
    have d2 : decide ((G : Int) < 1) = false := decide_eq_false (by omega)
    have d2' : decide (G < 1) = false := decide_eq_false (by omega)
    have d3 : decide ((Q : Int) ≤ (P : Int)) = false := decide_eq_false (by omega)
    have d3' : decide (Q ≤ P) = false := decide_eq_false (by omega)
    have HS2 := Lib.hid (HSEC.out h1)
    have e0 : (0 : Int) ≤ 18 + (n : Int) := by omega
    have e1 : (18 : Int) ≤ 18 + (n : Int) := by omega
    have e2 : (18 : Int) + (n : Int) ≤ (s.size : Int) := by omega
    have e3 : ((18 : Int) + (n : Int)).toNat = 18 + n := by omega
    have e4 : 18 + n ≤ s.size := by omega
    have ew : wrap64 ((18 : Int) + (n : Int)) = 18 + (n : Int) := by simp only [wrap64]; omega
    have d4 : (S.toList == s.toList) = true := by rw [hc]; simp
    have d5 : ((P : Int) + 1 == (Q : Int)) = true := beq_iff_eq.2 (by omega)
    have dw : wrap64 ((P : Int) + 1) = (P : Int) + 1 := by simp only [wrap64]; omega
    have d6 : ((n : Int) == 0) = true := beq_iff_eq.2 (by omega)
    have d7 : ((Q : Int) != 1) = false := by simp; omega
    have d7' : ((Q : Int) == 1) = true := beq_iff_eq.2 (by omega)
    rw [hW]
    clear h1 h2 h3 hW hc h4 h5 h6
    clear b0 b1 b2 b3 b4 f0 f1 f2 f3 f4
    go_wp2_with fail
    rw [HEX.out]
    generalize W.setCell ⟨w.heap.size + 1, 4, none⟩ (.string D) = V at *
    have hv1 := HST.out.1
    have hv2 := HST.out.2.1
    unfold IsRow5 at hv1 hv2
    have HV1 := Lib.hid hv1
    have HV2 := Lib.hid hv2
    have HVB := Lib.hid HST.out.2.2
    obtain ⟨k0, k1, k2, k3, k4⟩ := box5_of hv1
    clear HST hv1 hv2
    go_wp2_with fail
    refine (HS2.out _).mono ?_
    rintro e w2 ⟨rfl, hb⟩
    have hv1 := (hb.block _ (lt_of_block HV1.out)).trans HV1.out
    have hv2 := (hb.block _ (lt_of_block HV2.out)).trans HV2.out
    have HBX := Lib.hid (HVB.out.trans (hb.mono HVB.out.size))
    obtain ⟨x0, x1, x2, x3, x4⟩ := box5_of hv1
    obtain ⟨y0, y1, y2, y3, y4⟩ := box5_of hv2
    have z0 := frozen_of_row _ w.heap.size 0 _ _ hv2
    have z1 := frozen_of_row _ w.heap.size 1 _ _ hv2
    have z2 := frozen_of_row _ w.heap.size 2 _ _ hv2
    have z3 := frozen_of_row _ w.heap.size 3 _ _ hv2
    have z4 := frozen_of_row _ w.heap.size 4 _ _ hv2
    clear hb hv1 hv2 k0 k1 k2 k3 k4
    go_wp2_with fail
    refine bodyPost_ret (v := .tuple #[.agg #[.int .i64 (G : Int), .int .i64 (N : Int), .int .i64 (P : Int), .int .i64 (Q : Int), .string D], .bool true]) (by simp [results, Tryz.results43, go_sem, y0, y1, y2, y3, y4]) rfl ⟨rfl, cbox_below HBX.out (Nat.le_refl _) _ _ _ _ _⟩
end Go.Proofs.YtnioagojiipjlaaGreat
