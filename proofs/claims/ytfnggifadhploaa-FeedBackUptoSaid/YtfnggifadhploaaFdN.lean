/-
  What Next comes to.
-/
import Derived.Test.YtfnggifadhploaaFdB
namespace Go.Proofs.Ytfnggifadhploaa
open Go.RowKit

theorem bnext_nil (w : World) : Calls Try.prog 33 #[.pointer none] w fun e w' => e = .returned (.tuple #[.string ByteArray.empty, .bool false, .int .i64 1]) ∧ w = w' := by
  go_enter Try.func33, Try.ntmps33
  go_wp2
  exact bodyPost_ret (v := .tuple #[.string ByteArray.empty, .bool false, .int .i64 1]) (by simp [results, Try.results33, go_sem]; rfl) rfl ⟨rfl, rfl⟩

section
variable {w : World} {B g : Nat} {l : List UInt8} {e : Nat}
theorem IsBuf.drewN (h : IsBuf w B g l e) (k : Nat) : IsBuf (w.drewN k) B g l e := h.kept rfl rfl
theorem IsBuf.drew (h : IsBuf w B g l e) : IsBuf w.drew B g l e := h.kept rfl rfl

theorem bnext_bad (h : IsBuf w B g l e) (he : e ≠ 0) : Calls Try.prog 33 #[.pointer (some ⟨B, 0, none⟩)] w fun x w' => x = .returned (.tuple #[.string ByteArray.empty, .bool false, .int .i64 e]) ∧ IsBuf w' B g l e ∧ OnlyS [B, g] w w' := by
  have H := Lib.hid h
  obtain ⟨v0, hv0, _⟩ := h
  have hc1 : w.cell? ⟨B, 1, none⟩ = some (.int .i64 e) := cell_of_row w B 1 _ _ _ hv0
  have h1 : ((e : Int) != 0) = true := by simp; omega
  have h1b : ((e : Int) == 0) = false := by simp; omega
  clear hv0
  go_enter Try.func33, Try.ntmps33
  go_wp2
  go_quiet (fail)
  go_wp2
  exact bodyPost_ret (v := .tuple #[.string ByteArray.empty, .bool false, .int .i64 e]) (by simp [results, Try.results33, go_sem]; rfl) rfl ⟨rfl, H.out.drewN _, (OnlyS.refl _ _).drewN _⟩

/-- What Next answers, and leaves, where so many bytes are the first message, or this is the error. -/
def Nexts (B g : Nat) (l : List UInt8) (n e : Nat) (x : Ending) (w' : World) : Prop :=
  (e ≠ 0 ∧ x = .returned (.tuple #[.string ByteArray.empty, .bool false, .int .i64 e]) ∧ IsBuf w' B g [] e) ∨
  (e = 0 ∧ n = 0 ∧ x = .returned (.tuple #[.string ByteArray.empty, .bool false, .int .i64 0]) ∧ IsBuf w' B g l 0) ∨
  (e = 0 ∧ n ≠ 0 ∧ x = .returned (.tuple #[.string (Mt.str (l.take n)), .bool true, .int .i64 0]) ∧ IsBuf w' B g (l.drop n) 0)

set_option maxRecDepth 100000 in
theorem bnext_any (h : IsBuf w B g l 0) (hl : l.length ≤ 140737488351232) : Calls Try.prog 33 #[.pointer (some ⟨B, 0, none⟩)] w fun x w' => Nexts B g l (Mt.cutL l).1 (Mt.cutL l).2 x w' ∧ OnlyS [B, g] w w' := by
  have H := Lib.hid h
  obtain ⟨v, hv, hb, hne⟩ := h
  have hc1 : w.cell? ⟨B, 1, none⟩ = some (.int .i64 0) := cell_of_row w B 1 _ _ _ hv
  rcases hb with ⟨rfl, rfl⟩ | ⟨off, cap, cur, rfl, hg, hcap, hcur, hcs⟩
  · have c0 : w.cell? ⟨B, 0, none⟩ = some (.slice none 0 0) := cell_of_row w B 0 _ _ _ hv
    have HC := Lib.hid (fun W => cut_any [] ByteArray.empty rfl W (by simp))
    have hcv2 : ∀ j, (convert 54 9 (.slice none 0 0)).run Try.prog (w.drewN j) = .ok (.string ByteArray.empty) (w.drewN j) := fun j => run_convert_bytes_nil (P := Try.prog) (w := w.drewN j) 54 5 Try.underlying54 Try.underlying5 0 0 9 Try.underlying9
    have f0 := frozen_of_block hv 0
    clear hv
    have e0 : Mt.cutL [] = (0, 0) := rfl
    rw [e0] at HC ⊢
    clear e0
    go_enter Try.func33, Try.ntmps33
    go_wp2
    go_quiet ((go_at_call 44; exact Calls.quiet_of_same ((HC.out _).mono fun _ _ ⟨h1, h2⟩ => ⟨h1, h2.symm⟩)))
    go_wp2
    refine bodyPost_ret (v := .tuple #[.string ByteArray.empty, .bool false, .int .i64 0]) (by simp [results, Try.results33, go_sem]; rfl) rfl ⟨.inr (.inl ⟨rfl, rfl, rfl, H.out.drewN _⟩), (OnlyS.refl _ _).drewN _⟩
  · have c0 : w.cell? ⟨B, 0, none⟩ = some (.slice (some ⟨g, off, none⟩) l.length cap) := cell_of_row w B 0 _ _ _ hv
    obtain ⟨m, hm⟩ : ∃ m, min l.length 6 = m := ⟨_, rfl⟩
    have hm1 : (if (6 : Int) < (l.length : Int) then (6 : Int) else (l.length : Int)) = (m : Int) := by split <;> omega
    have hm2 : m ≤ cap := by omega
    have hcv := byt_text (w := w) (cap := cap) (n := m) hg hcs (by omega)
    have hcv1 := byt_text (w := w.drew) (cap := cap) (n := m) hg hcs (by omega)
    have hcv2 := fun j => byt_text (w := w.drewN j) (cap := cap) (n := m) hg hcs (by omega)
    have htk : l.take m = l.take 6 := by
      rw [← hm]
      rcases Nat.lt_or_ge l.length 6 with h6 | h6
      · rw [Nat.min_eq_left (by omega), List.take_length, List.take_of_length_le (by omega)]
      · rw [Nat.min_eq_right h6]
    have HC := Lib.hid (fun W => cut_any l (Mt.str (l.take m)) (by rw [htk]; rfl) W hl)
    have HV := Lib.hid hv
    have HG := Lib.hid hg
    have HM := Lib.hid hm
    have f0 := frozen_of_block hv 0
    have f1 := frozen_of_block hv 1
    clear hv hg hcs htk hm
    have hle := Mt.cutL_le l
    have hbad := Mt.cutL_bad l
    obtain ⟨n, e, hne2⟩ : ∃ n e, Mt.cutL l = (n, e) := ⟨_, _, rfl⟩
    rw [hne2] at HC hle hbad
    rw [hne2]
    clear hne2
    simp only at HC hle hbad ⊢
    go_enter Try.func33, Try.ntmps33
    go_wp2
    go_quiet ((go_at_call 44; exact Calls.quiet_of_same ((HC.out _).mono fun _ _ ⟨h1, h2⟩ => ⟨h1, h2.symm⟩)))
    have HO : Hid (OnlyS [B, g] w (w.drewN nq)) := (OnlyS.refl _ _).drewN nq
    have HV2 : Hid ((w.drewN nq).heap[B]? = some (.cells #[Value.slice (some ⟨g, off, none⟩) l.length cap, .int .i64 ((0 : Nat) : Int)] 84 (0, 0))) := HV.out
    have H2 := Lib.hid (H.out.drewN nq)
    have c02 : (w.drewN nq).cell? ⟨B, 0, none⟩ = some (.slice (some ⟨g, off, none⟩) l.length cap) := c0
    have c12 : (w.drewN nq).cell? ⟨B, 1, none⟩ = some (.int .i64 0) := hc1
    have f02 : (w.drewN nq).frozen? ⟨B, 0, none⟩ = false := f0
    have f12 : (w.drewN nq).frozen? ⟨B, 1, none⟩ = false := f1
    clear H HV HG c0 hc1 f0 f1 hcv hcv1 hcv2 hm1 hm2 HC
    generalize w.drewN nq = w1 at *
    by_cases he : e = 0
    · subst he
      by_cases hn : n = 0
      · subst hn
        go_wp2
        refine bodyPost_ret (v := .tuple #[.string ByteArray.empty, .bool false, .int .i64 0]) (by simp [results, Try.results33, go_sem]; rfl) rfl ⟨.inr (.inl ⟨rfl, rfl, rfl, H2.out⟩), HO.out⟩
      · have hn0 : ((n : Int) == 0) = false := by simp; omega
        have HT := Lib.hid (btake_any H2.out n (by omega) hle hl)
        go_wp2_with (go_at_call 45; refine (HT.out).mono ?_; rintro e w' ⟨rfl, hb2, ho2⟩)
        refine bodyPost_ret (v := .tuple #[.string (Mt.str (l.take n)), .bool true, .int .i64 0]) (by simp [results, Try.results33, go_sem]) rfl ⟨.inr (.inr ⟨rfl, hn, rfl, ?_⟩), HO.out.trans (ho2.mono (by simp))⟩
        exact hb2
    · have he0 : ((e : Int) == 0) = false := by simp; omega
      have he1 : ((e : Int) != 0) = true := by simp; omega
      go_wp2
      refine bodyPost_ret (v := .tuple #[.string ByteArray.empty, .bool false, .int .i64 e]) (by simp [results, Try.results33, go_sem]; rfl) rfl ⟨.inl ⟨he, rfl, ⟨.slice none 0 0, ?_, .inl ⟨rfl, rfl⟩, hne⟩⟩, ?_⟩
      · rw [heap_setCell_same _ _ _ _ _ _ (heap_setCell_same _ _ _ _ _ _ HV2.out)]; rfl
      · exact (HO.out.setCell (by simp) _).setCell (by simp) _
end
end Go.Proofs.Ytfnggifadhploaa
