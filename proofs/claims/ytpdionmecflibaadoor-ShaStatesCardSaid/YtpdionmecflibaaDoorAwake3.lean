/-
  The chapter's examples of sha: they are met.
-/
import Derived.Test.YtpdionmecflibaaDoorAll
import Derived.Test.YtpdionmecflibaaDoorShaMath
namespace Go.Proofs.YtpdionmecflibaaDoor
open Go.RowKit

theorem below_alloc (w : World) (A : Obj) : Below w.heap.size w (w.alloc A) := (Below.refl _ _).alloc (Nat.le_refl _) _
theorem Mt.cat_one (s : ByteArray) : Mt.cat [s] = s.data.toList := by simp [Mt.cat]
theorem Mt.cat_two (s t : ByteArray) : Mt.cat [s, t] = s.data.toList ++ t.data.toList := by simp [Mt.cat]

/-- Sum256 of parts that were just laid. -/
theorem all_one (s : ByteArray) (B : Nat) (w : World) (hB : B = w.heap.size) (hg : Laid w) (hs : s.size ≤ 1099511627776) :
    Calls Tryd.prog 9 #[.slice (some ⟨B, 0, none⟩) 1 1] (w.alloc (.cells #[.string s] 9)) fun e w' => e = .returned (.string (Mt.str (Mt.sha s.data.toList))) ∧ Below w.heap.size w w' := by
  subst hB
  have hb := below_alloc w (.cells #[.string s] 9)
  have h := all_any (some ⟨w.heap.size, 0, none⟩) 1 1 [s] _ (hg.below hb (Nat.le_refl _)) (strs_one s w (by unfold maxLen; omega)) (by rw [Mt.cat_one]; exact hs) (by decide)
  rw [Mt.cat_one] at h
  exact h.mono fun e w' hh => ⟨hh.1, hb.trans (hh.2.mono (by simp))⟩
theorem all_two (s t : ByteArray) (B : Nat) (w : World) (hB : B = w.heap.size) (hg : Laid w) (hs : s.size ≤ 549755813888) (ht : t.size ≤ 549755813888) :
    Calls Tryd.prog 9 #[.slice (some ⟨B, 0, none⟩) 2 2] (w.alloc (.cells #[.string s, .string t] 9)) fun e w' => e = .returned (.string (Mt.str (Mt.sha (s.data.toList ++ t.data.toList)))) ∧ Below w.heap.size w w' := by
  subst hB
  have hb := below_alloc w (.cells #[.string s, .string t] 9)
  have h := all_any (some ⟨w.heap.size, 0, none⟩) 2 2 [s, t] _ (hg.below hb (Nat.le_refl _)) (strs_two s t w (by unfold maxLen; omega) (by unfold maxLen; omega)) (by
    have e1 : s.data.toList.length = s.size := rfl
    have e2 : t.data.toList.length = t.size := rfl
    rw [Mt.cat_two, List.length_append]; omega) (by decide)
  rw [Mt.cat_two] at h
  exact h.mono fun e w' hh => ⟨hh.1, hb.trans (hh.2.mono (by simp))⟩
theorem all_none (w : World) (hg : Laid w) :
    Calls Tryd.prog 9 #[.slice none 0 0] w fun e w' => e = .returned (.string (Mt.str (Mt.sha []))) ∧ Below w.heap.size w w' := by
  have h := all_any none 0 0 [] w hg (strs_nil w) (by simp [Mt.cat]) (by decide)
  have e : Mt.cat [] = [] := rfl
  rwa [e] at h

theorem LaidN.laid {B : Nat} {w : World} (h : LaidN B w) : Laid w := h.1
theorem LaidN.below {B D : Nat} {w u : World} (h : LaidN B w) (hb : Below D w u) (hD : w.heap.size ≤ D) : LaidN B u := ⟨h.1.below hb hD, h.2⟩
/-- Write of parts that were just laid. -/
theorem write_one (B D : Nat) (M : List UInt8) (s : ByteArray) (w : World) (hD : D = w.heap.size) (hst : IsSt w B M) (hB : B < w.heap.size) (hg : LaidN B w) (hs : M.length + s.size ≤ 1099511627776) :
    Calls Tryd.prog 12 #[.pointer (some ⟨B, 0, none⟩), .slice (some ⟨D, 0, none⟩) 1 1] (w.alloc (.cells #[.string s] 9)) fun e w' => e = .returned (.tuple #[]) ∧ IsSt w' B (M ++ s.data.toList) ∧ Only B w w' := by
  subst hD
  have hb := below_alloc w (.cells #[.string s] 9)
  have h := writes_any B M (some ⟨w.heap.size, 0, none⟩) 1 1 [s] _ (hst.below hb hB) (hg.below hb (Nat.le_refl _)) (strs_one s w (by unfold maxLen; omega)) (.inr fun p hp => by
    obtain rfl := Option.some.inj hp
    show w.heap.size ≠ B
    omega) (by rw [Mt.cat_one]; exact hs) (by decide)
  rw [Mt.cat_one] at h
  exact h.mono fun e w' hh => ⟨hh.1, hh.2.1, (Below.only hb (Nat.le_refl _)).trans hh.2.2⟩
theorem Mt.cat_three (s t u : ByteArray) : Mt.cat [s, t, u] = s.data.toList ++ (t.data.toList ++ u.data.toList) := by simp [Mt.cat]
theorem write_three (B D : Nat) (M : List UInt8) (s t u : ByteArray) (w : World) (hD : D = w.heap.size) (hst : IsSt w B M) (hB : B < w.heap.size) (hg : LaidN B w) (hs : M.length + (s.size + (t.size + u.size)) ≤ 1099511627776) :
    Calls Tryd.prog 12 #[.pointer (some ⟨B, 0, none⟩), .slice (some ⟨D, 0, none⟩) 3 3] (w.alloc (.cells #[.string s, .string t, .string u] 9)) fun e w' => e = .returned (.tuple #[]) ∧ IsSt w' B (M ++ (s.data.toList ++ (t.data.toList ++ u.data.toList))) ∧ Only B w w' := by
  subst hD
  have hb := below_alloc w (.cells #[.string s, .string t, .string u] 9)
  have h := writes_any B M (some ⟨w.heap.size, 0, none⟩) 3 3 [s, t, u] _ (hst.below hb hB) (hg.below hb (Nat.le_refl _)) (strs_three s t u w (by unfold maxLen; omega) (by unfold maxLen; omega) (by unfold maxLen; omega)) (.inr fun p hp => by
    obtain rfl := Option.some.inj hp
    show w.heap.size ≠ B
    omega) (by
      have e1 : s.data.toList.length = s.size := rfl
      have e2 : t.data.toList.length = t.size := rfl
      have e3 : u.data.toList.length = u.size := rfl
      rw [Mt.cat_three, List.length_append, List.length_append]; omega) (by decide)
  rw [Mt.cat_three] at h
  exact h.mono fun e w' hh => ⟨hh.1, hh.2.1, (Below.only hb (Nat.le_refl _)).trans hh.2.2⟩

theorem awake3_any (w : World) (hg : Laid w) : Calls Tryd.prog 8 #[] w fun e w' => e = .returned (.bool true) ∧ Below w.heap.size w w' := by
  have h1 := fun B u hB hgu => all_one ⟨#[97, 98, 99]⟩ B u hB hgu (by decide)
  have h2 := all_none
  have hA4 := Mt.sha_abc_str
  have hAs := Mt.sha_size [97, 98, 99]
  have hC4 := Mt.sha_nil_str
  have hCs := Mt.sha_size []
  have e : (⟨#[97, 98, 99]⟩ : ByteArray).data.toList = [97, 98, 99] := rfl
  rw [e] at h1
  generalize Mt.str (Mt.sha [97, 98, 99]) = A at h1 hA4 hAs
  generalize Mt.str (Mt.sha []) = C at h2 hC4 hCs
  have HH1 := Lib.hid h1
  have HH2 := Lib.hid h2
  have HG := Lib.hid hg
  clear h1 h2 hg e
  go_enter Tryd.func8, Tryd.ntmps8
  go_wp2_with fail
  refine (HH1.out _ _ rfl HG.out).mono ?_
  rintro e w1 ⟨rfl, hb1⟩
  have HB1 := Lib.hid hb1
  clear hb1
  go_wp2_with fail
  refine (HH2.out _ (HG.out.below HB1.out (Nat.le_refl _))).mono ?_
  rintro e w2 ⟨rfl, hb2⟩
  have HB2 := Lib.hid (HB1.out.trans (hb2.mono HB1.out.size))
  clear hb2 HB1
  go_wp2_with fail
  go_ret
  exact ⟨rfl, HB2.out⟩

end Go.Proofs.YtpdionmecflibaaDoor
