/-
  What the call dn.Type comes to.
-/
import Derived.Test.YtnlbhmjgeedgpaaDoorDn
set_option linter.unusedVariables false
set_option linter.unusedSimpArgs false
namespace Go.Proofs.YtnlbhmjgeedgpaaDoor
open Go.RowKit

/-- A byte of a type, at its place. -/
def Mt.okAt (s : ByteArray) (j : Nat) (h : j < s.size) : Bool := Mt.letN s[j].toNat || (decide (0 < j) && (Mt.digN s[j].toNat || decide (s[j].toNat = 45)))
theorem Mt.ok_list (l : List UInt8) (h : ∀ j (h : j < l.length), Mt.tyN l[j].toNat = true) : (l.all fun c => Mt.tyN c.toNat) = true := by
  rw [List.all_eq_true]
  intro c hc
  obtain ⟨j, hj, rfl⟩ := List.mem_iff_getElem.1 hc
  exact h j hj
theorem Mt.typ_yes (s : ByteArray) (h0 : 0 < s.size) (h32 : s.size ≤ 32) (h : ∀ j (hj : j < s.size), Mt.okAt s j hj = true) : Mt.typL s.data.toList = true := by
  obtain ⟨r, hr, hl, _⟩ := Mt.cons_of h0
  have hs : ∀ j (hj : j < r.length), r[j] = s[j + 1]'(by omega) := fun j hj => by
    have : s.data.toList[j + 1]'(by rw [hr]; simp; omega) = r[j] := by simp [hr]
    rw [← this]; rfl
  rw [hr]
  simp only [Mt.typL, Bool.and_eq_true, decide_eq_true_eq]
  refine ⟨⟨by omega, ?_⟩, Mt.ok_list r fun j hj => ?_⟩
  · have := h 0 h0; simpa [Mt.okAt] using this
  · have := h (j + 1) (by omega)
    rw [hs j hj]
    simp only [Mt.okAt, Bool.or_eq_true, Bool.and_eq_true] at this
    simp only [Mt.tyN, Bool.or_eq_true]
    rcases this with h | ⟨_, h | h⟩
    · exact .inl (.inl h)
    · exact .inl (.inr h)
    · exact .inr h
theorem Mt.typ_no (s : ByteArray) (j : Nat) (hj : j < s.size) (h : Mt.okAt s j hj = false) : Mt.typL s.data.toList = false := by
  obtain ⟨r, hr, hl, _⟩ := Mt.cons_of (s := s) (by omega)
  rw [hr]
  by_cases h0 : j = 0
  · subst h0
    have : Mt.letN s[0].toNat = false := by simpa [Mt.okAt] using h
    simp [Mt.typL, this]
  · have hs : r[j - 1]'(by omega) = s[j] := by
      have : s.data.toList[j]'(by rw [hr]; simp; omega) = r[j - 1]'(by omega) := by
        have e : ∀ k (hk : k < (s[0] :: r).length), 0 < k → (s[0] :: r)[k] = r[k - 1]'(by simp at hk; omega) := by
          intro k hk hk0
          cases k with
          | zero => omega
          | succ k => rfl
        simp only [hr]
        exact e j (by simp; omega) (by omega)
      rw [← this]; rfl
    have hf : Mt.tyN s[j].toNat = false := by
      simp only [Mt.okAt, decide_eq_true (show 0 < j by omega), Bool.true_and] at h
      simp only [Mt.tyN]
      rw [Bool.or_assoc]; exact h
    have : (r.all fun c => Mt.tyN c.toNat) = false := by
      rw [Bool.eq_false_iff]
      intro ha
      rw [List.all_eq_true] at ha
      have := ha (r[j - 1]'(by omega)) (List.getElem_mem _)
      rw [hs, hf] at this; cases this
    simp [Mt.typL, this]
theorem below_iter (w : World) (s : ByteArray) (p : Nat) : Below w.heap.size w (w.iter s p) := (Below.refl _ _).alloc (Nat.le_refl _) _
theorem Mt.dec_step (s : ByteArray) (p : Nat) (h : p < s.size) : (Mt.okAt s p h = true ∧ Utf8.decode s p = (s[p].toNat, 1) ∧ 0 ≤ (s[p].toNat : Int)) ∨ (Mt.okAt s p h = false ∧ ∃ x k, Utf8.decode s p = (x, k) ∧ (Mt.letN x || (decide (0 < p) && (Mt.digN x || decide (x = 45)))) = false) := by
  by_cases ha : s[p].toNat < 128
  · have hd := decode_ascii s p h ha
    by_cases ho : Mt.okAt s p h = true
    · exact .inl ⟨ho, hd, by omega⟩
    · have ho : Mt.okAt s p h = false := by simpa using ho
      exact .inr ⟨ho, _, _, hd, ho⟩
  · have hd := (decode_high s p h (by omega)).1
    refine .inr ⟨?_, (Utf8.decode s p).1, (Utf8.decode s p).2, rfl, ?_⟩
    · have e1 : Mt.letN s[p].toNat = false := by simp [Mt.letN]; omega
      have e2 : Mt.digN s[p].toNat = false := by simp [Mt.digN]; omega
      have e3 : decide (s[p].toNat = 45) = false := by simp; omega
      simp [Mt.okAt, e1, e2, e3]
    · have e1 : Mt.letN (Utf8.decode s p).1 = false := by simp [Mt.letN]; omega
      have e2 : Mt.digN (Utf8.decode s p).1 = false := by simp [Mt.digN]; omega
      have e3 : decide ((Utf8.decode s p).1 = 45) = false := by simp; omega
      simp [e1, e2, e3]

set_option maxRecDepth 100000 in
theorem type_any (s : ByteArray) (w : World) : Calls Tryd.prog 54 #[.string s] w fun e w' => e = .returned (.bool (Mt.typL s.data.toList)) ∧ Below w.heap.size w w' := by
  rcases Nat.eq_zero_or_pos s.size with h0 | h0
  · have hs0 : s = ⟨#[]⟩ := by
      apply ByteArray.ext
      exact Array.eq_empty_of_size_eq_zero h0
    subst hs0
    go_enter Tryd.func54, Tryd.ntmps54
    go_wp2
    go_ret
    exact ⟨rfl, Below.refl _ _⟩
  · have hne1 : s.toList.isEmpty = false := nonempty_str h0
    by_cases h32 : 32 < s.size
    · have hr : Mt.typL s.data.toList = false := by
        obtain ⟨r, hr, hl, _⟩ := Mt.cons_of h0
        rw [hr]; simp only [Mt.typL]; rw [decide_eq_false (by omega)]; rfl
      have hd : decide ((32 : Int) < s.size) = true := decide_eq_true (by omega)
      rw [hr]; clear hr
      go_enter Tryd.func54, Tryd.ntmps54
      go_wp2
      go_ret
      exact ⟨rfl, Below.refl _ _⟩
    · have hd : decide ((32 : Int) < s.size) = false := decide_eq_false (by omega)
      have HY := Lib.hid (Mt.typ_yes s h0 (by omega))
      have HN := Lib.hid (Mt.typ_no s)
      clear h0
      go_enter Tryd.func54, Tryd.ntmps54
      go_wp2
      go_loopw [] (fun w' => ∃ pos : Nat, w' = w.iter s pos ∧ pos ≤ s.size ∧ Hid (∀ j (hj : j < s.size), j < pos → Mt.okAt s j hj = true)) (fun w' => s.size - w'.iterPos w.heap.size)
      case atStart => exact ⟨0, rfl, Nat.zero_le _, Lib.hid fun j _ h => absurd h (Nat.not_lt_zero _)⟩
      case round =>
        obtain ⟨pos, rfl, hle, HO⟩ := hrel
        by_cases hp : pos < s.size
        · have hnx : ∀ ty, (Instr.next (.pointer (some ⟨w.heap.size, 0, none⟩)) true ty).run Tryd.prog (w.iter s pos) = _ := fun ty => run_next_any w s pos ty hp
          have HB := Lib.hid (fun p => below_iter w s p)
          rcases Mt.dec_step s pos hp with ⟨hok, hdc, hx0⟩ | ⟨hok, x, k, hdc, hbad⟩
          · rw [hdc] at hnx
            have HW := Lib.hid (fun (pos2 : Nat) (h2 : pos2 = pos + 1) => (⟨by omega, fun j hj hlt => by
              by_cases e : j = pos
              · subst e; exact hok
              · exact HO.out j hj (by omega)⟩ : pos2 ≤ s.size ∧ ∀ j (hj : j < s.size), j < pos2 → Mt.okAt s j hj = true))
            have hok2 : (Mt.letN (s[pos].toNat : Int).toNat || (!((pos : Int) == 0) && (Mt.digN (s[pos].toNat : Int).toNat || !((s[pos].toNat : Int) != 45)))) = true := by
              have e : (!((pos : Int) == 0)) = decide (0 < pos) := by rw [Bool.eq_iff_iff]; simp; omega
              have e2 : (!((s[pos].toNat : Int) != 45)) = decide (s[pos].toNat = 45) := by rw [Bool.eq_iff_iff]; simp; omega
              rw [e, e2, Int.toNat_natCast]; exact hok
            clear hok hdc
            generalize (s[pos].toNat : Int) = x at *
            have VL := Lib.hid (fun u => letter_int x hx0 u)
            have VD := Lib.hid (fun u => digit_int x hx0 u)
            obtain ⟨b1, h1⟩ : ∃ b, Mt.letN x.toNat = b := ⟨_, rfl⟩
            obtain ⟨b2, h2⟩ : ∃ b, Mt.digN x.toNat = b := ⟨_, rfl⟩
            obtain ⟨b3, h3⟩ : ∃ b, ((pos : Int) == 0) = b := ⟨_, rfl⟩
            obtain ⟨b4, h4⟩ : ∃ b, (x != 45) = b := ⟨_, rfl⟩
            rw [h1, h2, h3, h4] at hok2
            rw [h1] at VL
            rw [h2] at VD
            clear h1 h2 hx0
            cases b1 <;> cases b2 <;> cases b3 <;> cases b4 <;> first | (exfalso; revert hok2; decide) | skip
            all_goals
              clear hok2
              go_wp2_with (first | (go_at_call 67; refine (VL.out _).mono ?_; rintro e w' ⟨rfl, rfl⟩) | (go_at_call 68; refine (VD.out _).mono ?_; rintro e w' ⟨rfl, rfl⟩))
              go_roundw
              case rel => exact ⟨pos + 1, rfl, (HW.out _ rfl).1, Lib.hid (HW.out _ rfl).2⟩
              case measure => simp; omega
          · rw [hdc] at hnx
            have HF := Lib.hid (HN.out pos hp hok)
            have hok2 : (Mt.letN (x : Int).toNat || (!((pos : Int) == 0) && (Mt.digN (x : Int).toNat || !((x : Int) != 45)))) = false := by
              have e : (!((pos : Int) == 0)) = decide (0 < pos) := by rw [Bool.eq_iff_iff]; simp; omega
              have e2 : (!((x : Int) != 45)) = decide (x = 45) := by rw [Bool.eq_iff_iff]; simp; omega
              rw [e, e2, Int.toNat_natCast]; exact hbad
            have VL := Lib.hid (fun u => letter_int (x : Int) (by omega) u)
            have VD := Lib.hid (fun u => digit_int (x : Int) (by omega) u)
            clear hok hdc hbad
            generalize (x : Int) = x at *
            obtain ⟨b1, h1⟩ : ∃ b, Mt.letN x.toNat = b := ⟨_, rfl⟩
            obtain ⟨b2, h2⟩ : ∃ b, Mt.digN x.toNat = b := ⟨_, rfl⟩
            obtain ⟨b3, h3⟩ : ∃ b, ((pos : Int) == 0) = b := ⟨_, rfl⟩
            obtain ⟨b4, h4⟩ : ∃ b, (x != 45) = b := ⟨_, rfl⟩
            rw [h1, h2, h3, h4] at hok2
            rw [h1] at VL
            rw [h2] at VD
            clear h1 h2
            cases b1 <;> cases b2 <;> cases b3 <;> cases b4 <;> first | (exfalso; revert hok2; decide) | skip
            all_goals
              clear hok2
              go_wp2_with (first | (go_at_call 67; refine (VL.out _).mono ?_; rintro e w' ⟨rfl, rfl⟩) | (go_at_call 68; refine (VD.out _).mono ?_; rintro e w' ⟨rfl, rfl⟩))
              go_ret
              exact ⟨Mt.ret_bool HF.out.symm, HB.out _⟩
        · have hnx : ∀ ty, (Instr.next (.pointer (some ⟨w.heap.size, 0, none⟩)) true ty).run Tryd.prog (w.iter s pos) = _ := fun ty => run_next_end w s pos ty hp
          have HB := Lib.hid (fun p => below_iter w s p)
          have HF := Lib.hid (HY.out fun j hj => HO.out j hj (by omega))
          go_wp2
          go_ret
          exact ⟨Mt.ret_bool HF.out.symm, HB.out _⟩
end Go.Proofs.YtnlbhmjgeedgpaaDoor
