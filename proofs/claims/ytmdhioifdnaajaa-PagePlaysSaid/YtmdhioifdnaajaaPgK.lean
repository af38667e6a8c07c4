/-
  The chapter's example; a book that is none.
-/
import Derived.Test.YtmdhioifdnaajaaPgJ
import Derived.Test.YtmdhioifdnaajaaPgH
set_option linter.unusedVariables false
set_option linter.unusedSimpArgs false
namespace Go.Proofs.Ytmdhioifdnaajaa
open Go.RowKit Go.Shelf Go.Maps

theorem Mt.keepB_one (c : Int) (p : Mt.Pl) : Mt.keepB c p [] = [(c, p)] := by unfold Mt.keepB; rw [Mt.cutB_low c (by simp [Mt.rowB_nil])]; rfl
theorem Mt.tookB_one (m good : Mt.Pl → Bool) (c : Int) (p : Mt.Pl) : Mt.tookB m good c [(c, p)] = if m p = true then (if good p = true then (p.at', true) else (0, false)) else (0, false) := by simp [Mt.tookB]
theorem Mt.takeB_one (m : Mt.Pl → Bool) (c : Int) (p : Mt.Pl) : Mt.takeB m c [(c, p)] = if m p = true then [] else [(c, p)] := by
  unfold Mt.takeB
  by_cases h : m p = true
  · rw [if_pos h, List.filter_cons_of_neg (by simp [h])]; rfl
  · rw [if_neg h, List.filter_cons_of_pos (by simp [h])]; rfl
theorem keepNil26_any (c ver at' : Int) (key : ByteArray) (w : World) : Calls Try.prog 10 #[.pointer none, .int .i64 c, .string key, .int .i64 ver, .int .i64 at'] w fun e w' => e = .returned (.string ⟨#[]⟩) ∧ Below w.heap.size w w' := by
  go_enter Try.func10, Try.ntmps10
  go_wp2_with fail
  all_goals (go_ret; exact ⟨rfl, Below.refl _ _⟩)
theorem takeNil26_any (c ver : Int) (s key : ByteArray) (w : World) : Calls Try.prog 6 #[.pointer none, .int .i64 c, .string s, .string key, .int .i64 ver] w fun e w' => e = .returned (.tuple #[.int .i64 0, .bool false]) ∧ Below w.heap.size w w' := by
  have HB := Lib.hid ((Below.refl w.heap.size w).alloc (Nat.le_refl _) (.cells #[.string s] 9))
  go_enter Try.func6, Try.ntmps6
  go_wp2_with fail
  all_goals (go_ret2; exact ⟨rfl, HB.out⟩)
theorem dropNil26_any (c : Int) (w : World) : Calls Try.prog 8 #[.pointer none, .int .i64 c] w fun e w' => e = .returned (.tuple #[]) ∧ Below w.heap.size w w' := by
  go_enter Try.func8, Try.ntmps8
  go_wp2_with fail
  refine bodyPost_ret (results_none rfl _ _ _) rfl ?_
  exact ⟨rfl, Below.refl _ _⟩
theorem lenNil26_any (w : World) : Calls Try.prog 12 #[.pointer none] w fun e w' => e = .returned (.int .i64 0) ∧ Below w.heap.size w w' := by
  go_enter Try.func12, Try.ntmps12
  go_wp2_with fail
  all_goals (go_ret; exact ⟨rfl, Below.refl _ _⟩)
theorem ex26_1 : Mt.ansL 5 [] = [48, 5, 2, 1, 5, 4, 0] := by decide +kernel
theorem ex26_2 : (ck 1).size = 8 := by decide +kernel
set_option maxRecDepth 100000 in
set_option maxHeartbeats 1000000 in
theorem awake26_any (w : World) : Calls Try.prog 4 #[] w fun e w' => e = .returned (.bool true) ∧ Below w.heap.size w w' := by
  have HAN : Hid (∀ u : World, Calls Try.prog 13 #[.int .i64 5, .string ⟨#[]⟩] u fun e w' => e = .returned (.string ⟨#[48, 5, 2, 1, 5, 4, 0]⟩) ∧ Below u.heap.size u w') := Lib.hid (fun u => by
    have h := answer26_any 5 [] (by simp) (by decide) (by decide) u
    rw [ex26_1] at h
    exact h)
  have h8 := ex26_2
  obtain ⟨CK, hCK⟩ : ∃ CK, ck 1 = CK := ⟨_, rfl⟩
  have HCK := Lib.hid hCK
  rw [hCK] at h8
  clear hCK
  go_enter Try.func4, Try.ntmps4
  go_wp2_with fail
  refine (new26_any _).mono ?_
  rintro e w1 ⟨B, S, rfl, hb, hbel, hS⟩
  have HK := Lib.hid (keep26_any (c := 1) (ver := 2) (at' := 3) ⟨#[107]⟩ (by decide) (by decide) hb)
  rw [Nat.zero_add, HCK.out, Mt.keepB_one] at HK
  have H1 := Lib.hid (And.intro hbel hS)
  clear hb hbel hS
  go_wp2_with fail
  refine (HK.out).mono ?_
  rintro e w2 ⟨rfl, S', hb, hop, hS'⟩
  have HT := Lib.hid (take26_any (c := 1) (ver := 2) CK ⟨#[107]⟩ (by decide) (by decide) hb)
  rw [Mt.tookB_one, Mt.takeB_one, if_pos (by simp [HCK.out]), if_pos (by simp), if_pos (by simp [HCK.out])] at HT
  have H2 : Hid (Below w.heap.size w w2 ∧ ∀ k, S' k → w.heap.size ≤ k) := Lib.hid ⟨H1.out.1.trans (hop.toBelow H1.out.2 H1.out.1.size), fun k hk => by rcases hS' k hk with h | h; exact H1.out.2 k h; have := H1.out.1.size; omega⟩
  clear hb hop hS' HK
  go_wp2_with fail
  refine (HT.out).mono ?_
  rintro e w3 ⟨rfl, hb, hop⟩
  have H3 : Hid (Below w.heap.size w w3) := Lib.hid (H2.out.1.trans (hop.toBelow H2.out.2 H2.out.1.size))
  have HB3 := Lib.hid hb
  clear hb hop HT
  go_wp2_with fail
  refine (HAN.out _).mono ?_
  rintro e w4 ⟨rfl, hb4⟩
  have HL := Lib.hid (len26_any (by decide) (HB3.out.below hb4))
  have H4 := Lib.hid (H3.out.trans (hb4.mono H3.out.size))
  clear hb4
  go_wp2_with fail
  refine (HL.out).mono ?_
  rintro e w5 ⟨rfl, hb5⟩
  have H5 := Lib.hid (H4.out.trans (hb5.mono H4.out.size))
  clear hb5
  go_wp2_with fail
  all_goals (go_ret; exact ⟨rfl, H5.out⟩)
end Go.Proofs.Ytmdhioifdnaajaa
