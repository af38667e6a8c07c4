/-
  A buffer and the messages that came out of it, side by side in memory: what Add, all and append make of both.
-/
import Derived.Test.YtfnggifadhploaaFdW
namespace Go.Proofs.Ytfnggifadhploaa
open Go.RowKit

theorem IsBuf.norm {w : World} {B g : Nat} {l : List UInt8} {e : Nat} (h : IsBuf w B g l e) (m : Nat) (hm : m ≠ B) : g < w.heap.size ∨ (l = [] ∧ IsBuf w B m l e) := by
  obtain ⟨v, hv, hb, hn⟩ := h
  rcases hb with ⟨h1, h2⟩ | ⟨off, cap, cur, h1, h2, h3⟩
  · exact .inr ⟨h1, v, hv, .inl ⟨h1, h2⟩, fun e => hm e.symm⟩
  · exact .inl (lt_of_block h2)
theorem IsBuf.ne {w : World} {B g : Nat} {l : List UInt8} {e : Nat} (h : IsBuf w B g l e) : B ≠ g := by obtain ⟨_, _, _, hn⟩ := h; exact hn

theorem Mt.drnE_append (e : Nat) (l R : List UInt8) : Mt.drnE e (l ++ R) = ((Mt.drnE e l).1 ++ (Mt.drnE (Mt.drnE e l).2.2 ((Mt.drnE e l).2.1 ++ R)).1, (Mt.drnE (Mt.drnE e l).2.2 ((Mt.drnE e l).2.1 ++ R)).2) := by
  by_cases he : e = 0
  · subst he
    have := Mt.drn_append l.length l R (Nat.le_refl _)
    simpa [Mt.drnE] using this
  · simp [Mt.drnE, he]
theorem Mt.str_take (l : List UInt8) (k : Nat) : (Mt.str l).extract 0 k = Mt.str (l.take k) := by
  apply ByteArray.ext
  rw [ByteArray.data_extract]
  simp [Mt.str]
theorem Mt.str_drop (l : List UInt8) (k : Nat) : (Mt.str l).extract k l.length = Mt.str (l.drop k) := by
  apply ByteArray.ext
  rw [ByteArray.data_extract]
  apply Array.ext'
  simp [Mt.str, Array.toList_extract, List.extract]
  exact List.take_of_length_le (by simp)
theorem Mt.svs_get (ms : List (List UInt8)) (k : Nat) (h : k < (Mt.svs ms).length) : (Mt.svs ms)[k] = .string (Mt.str (ms[k]'(by rw [Mt.svs_length] at h; exact h))) := by simp [Mt.svs]

/-- A buffer, and a slice of texts, in blocks that were not there in the world wH. -/
def St (B : Nat) (wH w : World) (l : List UInt8) (e : Nat) (v : Value) (ms : List (List UInt8)) : Prop :=
  (e ≠ 0 → l = []) ∧ l.length ≤ 200000 ∧ ∃ g gm, IsBuf w B g l e ∧ IsRw 9 1 w gm v ms.length (Mt.svs ms) ∧ wH.heap.size ≤ g ∧ wH.heap.size ≤ gm ∧ g ≠ gm ∧ gm ≠ B ∧ OnlyS [B] wH w

section
variable {B : Nat} {wH w : World} {l : List UInt8} {e : Nat} {v : Value} {ms : List (List UInt8)}
theorem St.norm (h : St B wH w l e v ms) : ∃ g gm, IsBuf w B g l e ∧ IsRw 9 1 w gm v ms.length (Mt.svs ms) ∧ wH.heap.size ≤ g ∧ wH.heap.size ≤ gm ∧ g ≠ gm ∧ gm ≠ B ∧ OnlyS [B] wH w ∧
    (g < w.heap.size ∨ l = [] ∧ g = w.heap.size + B + 1) ∧ (gm < w.heap.size ∨ gm = w.heap.size + B + 2) := by
  obtain ⟨he, hl, g, gm, h1, h2, h3, h4, h5, h6, h7⟩ := h
  have hs := h7.size
  have hB := h1.lt
  rcases h1.norm (w.heap.size + B + 1) (by omega) with a1 | ⟨hl0, a1⟩ <;> rcases h2.norm (w.heap.size + B + 2) with a2 | a2
  · exact ⟨g, gm, h1, h2, h3, h4, h5, h6, h7, .inl a1, .inl a2⟩
  · exact ⟨g, _, h1, a2, h3, by omega, by omega, by omega, h7, .inl a1, .inr rfl⟩
  · exact ⟨_, gm, a1, h2, by omega, h4, by omega, h6, h7, .inr ⟨hl0, rfl⟩, .inl a2⟩
  · exact ⟨_, _, a1, a2, by omega, by omega, by omega, by omega, h7, .inr ⟨hl0, rfl⟩, .inr rfl⟩
theorem St.lt (h : St B wH w l e v ms) : B < w.heap.size := by obtain ⟨_, _, g, gm, h1, _⟩ := h; exact h1.lt
theorem St.only (h : St B wH w l e v ms) : OnlyS [B] wH w := by obtain ⟨_, _, g, gm, _, _, _, _, _, _, h⟩ := h; exact h
theorem St.form (h : St B wH w l e v ms) : ∃ a c, v = .slice a ms.length c := by obtain ⟨_, _, g, gm, _, h2, _⟩ := h; exact h2.form
/-- The buffer goes on to another state. -/
theorem St.step {w' : World} {g gm g' : Nat} {l' : List UInt8} {e' : Nat} (h2 : IsRw 9 1 w gm v ms.length (Mt.svs ms)) (h3 : wH.heap.size ≤ g) (h4 : wH.heap.size ≤ gm) (h5 : g ≠ gm) (h6 : gm ≠ B) (h7 : OnlyS [B] wH w)
    (hgm : gm < w.heap.size ∨ gm = w.heap.size + B + 2) (hb : IsBuf w' B g' l' e') (hg' : g' = g ∨ w.heap.size ≤ g') (ho : OnlyS [B, g] w w') (he : e' ≠ 0 → l' = []) (hl : l'.length ≤ 200000) : St B wH w' l' e' v ms := by
  have hs := h7.size
  have hs2 := ho.size
  have hB := hb.lt
  have ho2 : OnlyS [B] wH w' := by
    refine ⟨ho.os.trans h7.os, ho.tape.trans h7.tape, ho.output.trans h7.output, Nat.le_trans hs hs2, fun k hk hS => ?_⟩
    have hS' : k ≠ B := by simpa using hS
    exact (ho.block k (by omega) (by simp; omega)).trans (h7.block k hk hS)
  rcases hgm with hgm | hgm
  · exact ⟨he, hl, g', gm, hb, h2.other ho (by simp; omega), by omega, h4, by omega, h6, ho2⟩
  · have h2' : ∀ m, IsRw 9 1 w' m v ms.length (Mt.svs ms) := by
      intro m
      obtain ⟨hl2, h2⟩ := h2
      rcases h2 with h2 | ⟨off, cap, cur, a1, a2, a3⟩
      · exact ⟨hl2, .inl h2⟩
      · have := lt_of_block a2; omega
    exact ⟨he, hl, g', g' + wH.heap.size + B + 1, hb, h2' _, by omega, by omega, by omega, by omega, ho2⟩

theorem St.add (h : St B wH w l e v ms) (ss : List ByteArray) (hn : ss.length ≤ 1000) (hsz : l.length + (Mt.cats ss).length ≤ 200000) :
    Calls Try.prog 30 #[.pointer (some ⟨B, 0, none⟩), .slice (some ⟨w.heap.size, 0, none⟩) ss.length ss.length] (w.alloc (.cells (ss.map Value.string).toArray 9)) fun x w' =>
      x = .returned (.tuple #[]) ∧ St B wH w' (if e = 0 then l ++ Mt.cats ss else l) e v ms := by
  obtain ⟨g, gm, h1, h2, h3, h4, h5, h6, h7, h8, h9⟩ := h.norm
  have hbel := (Below.refl w.heap.size w).alloc (Nat.le_refl _) (.cells (ss.map Value.string).toArray 9)
  by_cases he : e = 0
  · subst he
    refine (badd_alloc h1 ss hn (by omega) (by omega)).mono ?_
    rintro x w' ⟨rfl, g', a1, a2, a3⟩
    refine ⟨rfl, ?_⟩
    rw [if_pos rfl]
    exact St.step h2 h3 h4 h5 h6 h7 h9 a1 a2 a3 (fun hh => absurd rfl hh) (by rw [List.length_append]; omega)
  · refine (badd_bad (h1.below hbel) he _).mono ?_
    rintro x w' ⟨rfl, rfl⟩
    refine ⟨rfl, ?_⟩
    rw [if_neg he]
    exact St.step h2 h3 h4 h5 h6 h7 h9 (h1.below hbel) (.inl rfl) ((OnlyS.refl _ _).alloc _) h.1 h.2.1

theorem St.all (h : St B wH w l e v ms) : Calls Try.prog 31 #[.pointer (some ⟨B, 0, none⟩)] w fun x w' =>
    ∃ v2 g2, x = .returned (.tuple #[v2, .int .i64 (Mt.drnE e l).2.2]) ∧ St B wH w' (Mt.drnE e l).2.1 (Mt.drnE e l).2.2 v ms ∧ IsRw 9 1 w' g2 v2 (Mt.drnE e l).1.length (Mt.svs (Mt.drnE e l).1) ∧ w.heap.size ≤ g2 := by
  obtain ⟨g, gm, h1, h2, h3, h4, h5, h6, h7, h8, h9⟩ := h.norm
  have hl := h.2.1
  have hdl := Mt.drn_length l.length l (Nat.le_refl _)
  have key : Calls Try.prog 31 #[.pointer (some ⟨B, 0, none⟩)] w (Alls B g w.heap.size w (Mt.drnE e l)) := by
    by_cases he : e = 0
    · subst he
      have e0 : Mt.drnE 0 l = Mt.drn l := by simp [Mt.drnE]
      rw [e0]
      rcases h8 with h8 | ⟨rfl, _⟩
      · exact all8_any h1 (by omega) h8
      · have e1 : Mt.drn [] = ([], [], 0) := Mt.drn_none rfl rfl
        rw [e1]
        exact all8_wait h1 (by simp) rfl rfl
    · have e0 : Mt.drnE e l = ([], l, e) := by simp [Mt.drnE, he, h.1 he]
      rw [e0]
      exact all8_bad h1 he
  refine key.mono ?_
  rintro x w' ⟨v2, g2, rfl, hr, hg2, hgB, hb, ho⟩
  refine ⟨v2, g2, rfl, St.step h2 h3 h4 h5 h6 h7 h9 hb (.inl rfl) ho ?_ ?_, hr, hg2⟩
  · by_cases he : e = 0
    · subst he; simp only [Mt.drnE, if_neg (show ¬ (0 : Nat) ≠ 0 by simp)]; exact hdl.2.2
    · simp [Mt.drnE, he]
  · by_cases he : e = 0
    · subst he; simp only [Mt.drnE, if_neg (show ¬ (0 : Nat) ≠ 0 by simp)]; omega
    · simp [Mt.drnE, he]

theorem St.app (h : St B wH w l e v ms) {v2 : Value} {g2 : Nat} {ms2 : List (List UInt8)} (hr : IsRw 9 1 w g2 v2 ms2.length (Mt.svs ms2)) (hm : ms.length + ms2.length ≤ 10000000) :
    ∃ v' w', (∀ ty, (Builtin.append_ #[60, 60] ty #[v, v2]).run Try.prog w = .ok v' w') ∧ St B wH w' l e v' (ms ++ ms2) := by
  obtain ⟨i0, hi, hz0, hz1, hz2⟩ := info_parts Try.infoStr
  obtain ⟨g, gm, h1, h2, h3, h4, h5, h6, h7, h8, h9⟩ := h.norm
  have src : Src Try.prog i0.size 60 v2 ms2.length (Mt.svs ms2) w := by
    rcases hr.2 with ⟨h0, rfl⟩ | ⟨off, cap, cur, rfl, a2, a3, a4, a5⟩
    · have : ms2 = [] := List.eq_nil_of_length_eq_zero h0
      subst this
      exact Src.ofNil w Try.underlying60 0
    · refine Src.ofSlice w Try.underlying60 ⟨g2, off, none⟩ _ cap _ (by rw [Mt.svs_length, hz1, Nat.mul_one]) (fun j u hu => ?_) (Mt.svs_one _)
      have hj : j < (Mt.svs ms2).length := by
        rcases Nat.lt_or_ge j (Mt.svs ms2).length with h | h
        · exact h
        · rw [List.getElem?_eq_none h] at hu; cases hu
      rw [List.getElem?_eq_getElem hj] at hu
      cases hu
      rw [add_off, cell_of_row w g2 _ cur 9 (0, 0) a2]
      exact a5 j hj
  obtain ⟨v', w', gm', hrun, hrw, hg, ho⟩ := rw_append (T := 60) (tx := 60) Try.underlying60 hi hz0 hz1 hz2 rfl h2 (Mt.svs_one _) v2 ms2.length (Mt.svs ms2) src (by omega) (by omega)
  have hs := h7.size
  have hs2 := ho.size
  have hB := h1.lt
  have hsv : Mt.svs ms ++ Mt.svs ms2 = Mt.svs (ms ++ ms2) := by simp [Mt.svs]
  rw [hsv, ← List.length_append] at hrw
  have ho2 : OnlyS [B] wH w' := by
    refine ⟨ho.os.trans h7.os, ho.tape.trans h7.tape, ho.output.trans h7.output, Nat.le_trans hs hs2, fun k hk hS => ?_⟩
    exact (ho.block k (by omega) (by simp; omega)).trans (h7.block k hk hS)
  refine ⟨v', w', hrun, h.1, h.2.1, ?_⟩
  rcases h8 with h8 | ⟨h8, h8'⟩
  · refine ⟨g, gm', h1.other ho (by simp; omega) (by simp; omega), hrw, h3, ?_, ?_, ?_, ho2⟩
    all_goals rcases hg with rfl | rfl <;> omega
  · refine ⟨gm' + wH.heap.size + B + 1, gm', ?_, hrw, by omega, ?_, by omega, ?_, ho2⟩
    · subst h8
      rcases h1.norm (gm' + wH.heap.size + B + 1) (by omega) with hlt | ⟨_, hb⟩
      · omega
      · obtain ⟨v3, hv3, hb3, hn3⟩ := hb
        rcases hb3 with hb3 | ⟨off, cap, cur, a1, a2, _⟩
        · exact ⟨v3, (ho.block B hB (by simp; omega)).trans hv3, .inl hb3, hn3⟩
        · obtain ⟨v4, hv4, hb4, hn4⟩ := h1
          rw [hv3] at hv4
          cases hv4
          rcases hb4 with ⟨_, hb4⟩ | ⟨_, _, _, _, b2, _⟩
          · rw [a1] at hb4; cases hb4
          · have := lt_of_block b2; omega
    · rcases hg with rfl | rfl <;> omega
    · rcases hg with rfl | rfl <;> omega
end
end Go.Proofs.Ytfnggifadhploaa
