/-
  What the joining of parts comes to, in the statements of sha.
-/
import Derived.Test.YtpdionmecflibaaDoorAll
namespace Go.Proofs.YtpdionmecflibaaDoor
open Go.RowKit

theorem Mt.ret_pair' {a b : ByteArray} {x y : Bool} (h : a = b) (h2 : x = y) : Ending.returned (.tuple #[.string a, .bool x]) = .returned (.tuple #[.string b, .bool y]) := by rw [h, h2]

/-- Whether the joining gives up at a place. -/
def Far3 (most : Nat) (ss : List ByteArray) (k : Nat) : Prop := 50 < ss.length ∨ most < (ss.getD k ByteArray.empty).size ∨ most < (Mt.cat (ss.take k)).length

theorem joined3_nil (a : Option Addr) (cap most : Nat) (w : World) : Calls Tryd.prog 7 #[.slice a 0 cap, .int .i64 most] w fun e w' => e = .returned (.tuple #[.string ByteArray.empty, .bool true]) ∧ w = w' := by
  have h0 : (0 : Int) ≤ (most : Int) := by omega
  go_enter Tryd.func7, Tryd.ntmps7
  go_wp2
  refine wp_loop_rounds 1 ?_
  rw [rounds_succ]
  go_wp2
  go_ret2
  exact ⟨rfl, rfl⟩

set_option maxHeartbeats 800000 in
set_option maxRecDepth 100000 in
theorem joined3_any (b off cap most : Nat) (ss : List ByteArray) (S : ByteArray) (B : Bool) (w : World) (hmost : most ≤ 1099511627776) (hn : ss.length ≤ 9223372036854775807)
    (hc : ∀ i (hi : i < ss.length), w.cell? ⟨b, off + i, none⟩ = some (.string ss[i]))
    (hres : ((∀ k, k < ss.length → ¬ Far3 most ss k) ∧ S = Mt.str (Mt.cat ss) ∧ B = decide (S.size ≤ most)) ∨ ((∃ k, k < ss.length ∧ Far3 most ss k) ∧ S = ByteArray.empty ∧ B = false)) :
    Calls Tryd.prog 7 #[.slice (some ⟨b, off, none⟩) ss.length cap, .int .i64 most] w fun e w' => e = .returned (.tuple #[.string S, .bool B]) ∧ w = w' := by
  have HC := Lib.hid hc
  have HRES := Lib.hid hres
  obtain ⟨n, hne⟩ : ∃ n, ss.length = n := ⟨_, rfl⟩
  have HNE := Lib.hid hne
  have HMO := Lib.hid hmost
  rw [hne] at hn ⊢
  clear hc hres hne hmost
  go_enter Tryd.func7, Tryd.ntmps7
  go_wp2
  go_loop [6, 11] (fun r i => ∃ k : Nat, k ≤ n ∧ i = .int .i64 k ∧ r = .string (Mt.str (Mt.cat (ss.take k))) ∧ Hid (∀ j, j < k → ¬ Far3 most ss j)) (fun _ i => n - (intOf i).toNat)
  case atStart => exact ⟨0, Nat.zero_le _, rfl, rfl, Lib.hid (fun j h => by omega)⟩
  case round =>
    obtain ⟨k, hk, rfl, rfl, HF⟩ := hrel
    by_cases hlt : k < n
    · have hkl : k < ss.length := by have := HNE.out; omega
      obtain ⟨p, hp⟩ : ∃ p, ss[k] = p := ⟨_, rfl⟩
      have hcell : w.cell? ⟨b, off + k, none⟩ = some (.string p) := by rw [← hp]; exact HC.out k hkl
      have HP := Lib.hid (show ss.getD k ByteArray.empty = p by rw [← hp]; simp [List.getD, hkl])
      have HCAT := Lib.hid (show Mt.str (Mt.cat (ss.take (k + 1))) = Mt.str (Mt.cat (ss.take k)) ++ p by rw [Mt.cat_snoc ss k hkl, hp, Mt.str_snoc])
      have HSZ := Lib.hid (Mt.str_size (Mt.cat (ss.take k)))
      obtain ⟨A, hA⟩ : ∃ A, Mt.str (Mt.cat (ss.take k)) = A := ⟨_, rfl⟩
      rw [hA] at HCAT HSZ ⊢
      clear hA hp
      have HBAD := Lib.hid (fun (h : Far3 most ss k) => show S = ByteArray.empty ∧ B = false by
        rcases HRES.out with h2 | h2
        · exact absurd h (h2.1 k hkl)
        · exact h2.2)
      by_cases c1 : 50 < n
      · have HU := Lib.hid (HBAD.out (.inl (by have := HNE.out; omega)))
        have t1 : (50 : Int) < (n : Int) := by omega
        clear c1
        go_wp2_with fail
        go_ret2
        exact ⟨by rw [HU.out.1, HU.out.2]; rfl, rfl⟩
      · have t1 : decide ((50 : Int) < (n : Int)) = false := by simp; omega
        by_cases c2 : most < p.size
        · have HU := Lib.hid (HBAD.out (.inr (.inl (by rw [HP.out]; exact c2))))
          clear c1
          go_wp2_with fail
          go_ret2
          exact ⟨by rw [HU.out.1, HU.out.2]; rfl, rfl⟩
        · have t2 : decide (most < p.size) = false := decide_eq_false (by omega)
          by_cases c3 : most < A.size
          · have HU := Lib.hid (HBAD.out (.inr (.inr (by rw [← HSZ.out]; exact c3))))
            clear c1 c2
            go_wp2_with fail
            go_ret2
            exact ⟨by rw [HU.out.1, HU.out.2]; rfl, rfl⟩
          · have t3 : decide (most < A.size) = false := decide_eq_false (by omega)
            have HNF : Hid (¬ Far3 most ss k) := Lib.hid (by
              unfold Far3
              rw [HP.out, ← HSZ.out, HNE.out]
              omega)
            have hadd := fun wx => run_string_add_sum (w := wx) (P := Tryd.prog) A p (by have := HMO.out; omega)
            clear c1 c2 c3
            go_wp2_with fail
            go_round
            case rel => exact ⟨k + 1, by omega, by go_num, by rw [HCAT.out], Lib.hid (fun j h => by
              rcases Nat.lt_or_ge j k with h2 | h2
              · exact HF.out j h2
              · obtain rfl : j = k := by omega
                exact HNF.out)⟩
            case measure => simp [intOf]; omega
    · obtain rfl : k = n := by omega
      have HU : Hid (S = Mt.str (Mt.cat (ss.take k)) ∧ B = decide (S.size ≤ most)) := Lib.hid (by
        have hk := HNE.out
        rw [List.take_of_length_le (by omega)]
        rcases HRES.out with h2 | h2
        · exact h2.2
        · obtain ⟨j, hj, hf⟩ := h2.1
          exact absurd hf (HF.out j (by omega)))
      obtain ⟨A, hA⟩ : ∃ A, Mt.str (Mt.cat (ss.take k)) = A := ⟨_, rfl⟩
      rw [hA] at HU ⊢
      clear hA
      go_wp2_with fail
      go_ret2
      exact ⟨Mt.ret_pair' HU.out.1.symm (by rw [HU.out.2, HU.out.1]), rfl⟩

theorem joined3_of {w : World} {a : Option Addr} {n : Nat} {ss : List ByteArray} (cap most : Nat) (h : IsStrs w a n ss) (hn : n ≤ 9223372036854775807) (hmost : most ≤ 1099511627776) :
    ∃ (S : ByteArray) (B : Bool), (B = true → S = Mt.str (Mt.cat ss) ∧ S.size ≤ most) ∧
      Calls Tryd.prog 7 #[.slice a n cap, .int .i64 most] w fun e w' => e = .returned (.tuple #[.string S, .bool B]) ∧ w = w' := by
  obtain ⟨hl, h1, h2⟩ := h
  rcases h1 with rfl | ⟨b, off, rfl, hc⟩
  · have : ss = [] := List.eq_nil_of_length_eq_zero hl
    subst this
    exact ⟨ByteArray.empty, true, fun _ => ⟨rfl, by simp⟩, joined3_nil a cap most w⟩
  · subst hl
    by_cases hf : ∃ k, k < ss.length ∧ Far3 most ss k
    · exact ⟨ByteArray.empty, false, (fun h => absurd h (by decide)), joined3_any b off cap most ss _ _ w hmost hn hc (.inr ⟨hf, rfl, rfl⟩)⟩
    · have hf' : ∀ k, k < ss.length → ¬ Far3 most ss k := fun k hk hh => hf ⟨k, hk, hh⟩
      exact ⟨Mt.str (Mt.cat ss), _, (fun h => ⟨rfl, of_decide_eq_true h⟩), joined3_any b off cap most ss _ _ w hmost hn hc (.inl ⟨hf', rfl, rfl⟩)⟩

end Go.Proofs.YtpdionmecflibaaDoor
