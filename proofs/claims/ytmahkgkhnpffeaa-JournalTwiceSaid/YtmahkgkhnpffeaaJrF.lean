/-
  What readHead comes to.
-/
import Derived.Test.YtmahkgkhnpffeaaJrE
namespace Go.Proofs.Ytmahkgkhnpffeaa
open Go.RowKit

theorem alloc_size (w : World) (o : Obj) : (w.alloc o).heap.size = w.heap.size + 1 := by simp
theorem hbox_below {D B : Nat} {w w1 : World} (h : Below D w w1) (hB : D ≤ B) (x y : Value) : Below D w ((w1.setCell ⟨B, 0, none⟩ x).setCell ⟨B, 1, none⟩ y) :=
  (h.setCell (p := ⟨B, 0, none⟩) hB _).setCell (p := ⟨B, 1, none⟩) hB _
set_option maxRecDepth 100000 in
theorem rhead_no (s : ByteArray) (w : World) (h : ¬ (s.size = 128 ∧ s.data.toList.getD 4 0 = 72)) : Calls Try.prog 34 #[.string s] w fun e w' => e = .returned (.agg #[.int .u64 0, .int .i64 0]) ∧ Below w.heap.size w w' := by
  have HM := Lib.hid (fun u => marked_no s 72 u h)
  have HB := Lib.hid (((Below.refl w.heap.size w).alloc (Nat.le_refl _) (.cells #[.int .u64 0, .int .i64 0] 61)))
  obtain ⟨c0, c1⟩ := hbox_of (heap_alloc_new w (.cells #[.int .u64 0, .int .i64 0] 61))
  clear h
  go_enter Try.func34, Try.ntmps34
  go_wp2_with fail
  refine (HM.out _).mono ?_
  rintro e w1 ⟨rfl, rfl⟩
  go_wp2_with fail
  refine bodyPost_ret (v := .agg #[.int .u64 0, .int .i64 0]) (by simp [results, Try.results34, go_sem]) rfl ⟨rfl, ?_⟩
  exact HB.out
/-- Which ways readHead's last test goes. -/
def HdTest (G H : Nat) (s : ByteArray) (z : Bool) : Prop :=
  (z = false ∧ G ≠ 0 ∧ H ≤ 1 ∧ (Mt.str (Mt.hdSector G H)).toList = s.toList) ∨ (z = true ∧ (G = 0 ∨ (G ≠ 0 ∧ 1 < H) ∨ (G ≠ 0 ∧ H ≤ 1 ∧ (Mt.str (Mt.hdSector G H)).toList ≠ s.toList)))

set_option maxRecDepth 100000 in
set_option maxHeartbeats 1000000 in
theorem rhead_yes (s : ByteArray) (w : World) (h : s.size = 128) (hm : s.data.toList.getD 4 0 = 72) (G H : Nat) (hG : Mt.gn s.data.toList 5 4 = G) (hH : Mt.gn s.data.toList 9 1 = H) (z : Bool) (hz : HdTest G H s z) :
    Calls Try.prog 34 #[.string s] w fun e w' => e = .returned (.agg (if z = true then #[.int .u64 0, .int .i64 0] else hdV (G, H))) ∧ Below w.heap.size w w' := by
  have hGl : G < 4294967296 := by rw [← hG]; have := Mt.gn_lt s.data.toList 5 4; omega
  have hHl : H < 256 := by rw [← hH]; have := Mt.gn_lt s.data.toList 9 1; omega
  have HM := Lib.hid (fun u => marked_yes s 72 u h hm)
  have HN1 : Hid (∀ u, Calls Try.prog 48 #[.string s, .int .i64 5, .int .i64 4] u fun e w' => e = .returned (.int .u64 (G : Int)) ∧ u = w') := Lib.hid (fun u => by have := number_any s 5 4 u (by omega) (by omega) (by omega) (by omega); rw [hG] at this; exact this)
  have HN2 : Hid (∀ u, Calls Try.prog 48 #[.string s, .int .i64 9, .int .i64 1] u fun e w' => e = .returned (.int .u64 (H : Int)) ∧ u = w') := Lib.hid (fun u => by have := number_any s 9 1 u (by omega) (by omega) (by omega) (by omega); rw [hH] at this; exact this)
  have HS : Hid (∀ u, Calls Try.prog 49 #[.agg #[.int .u64 (G : Int), .int .i64 (H : Int)]] u fun e w' => e = .returned (.string (Mt.str (Mt.hdSector G H))) ∧ Below u.heap.size u w') := Lib.hid (fun u => hsector_any G H hGl hHl u)
  have hwr : IntKind.i64.wrap (H : Int) = (H : Int) := IntWalk.i64_in _ (by omega)
  have HB := Lib.hid ((((Below.refl w.heap.size w).alloc (Nat.le_refl _) (.cells #[.int .u64 0, .int .i64 0] 61)).alloc (by simp) (.cells #[.int .u64 (G : Int), .int .i64 (H : Int)] 61)))
  have hz0 := heap_alloc_new (w.alloc (.cells #[.int .u64 0, .int .i64 0] 61)) (.cells #[.int .u64 (G : Int), .int .i64 (H : Int)] 61)
  rw [alloc_size] at hz0
  have HZ := Lib.hid hz0
  clear hz0
  have HY := Lib.hid ((((Below.refl _ (w.alloc (.cells #[.int .u64 0, .int .i64 0] 61))).alloc (Nat.le_refl _) (.cells #[.int .u64 (G : Int), .int .i64 (H : Int)] 61)).block w.heap.size (by simp)).trans (heap_alloc_new w _))
  clear hG hH h hm
  unfold HdTest at hz
  generalize Mt.str (Mt.hdSector G H) = S at *
  unfold hdV
  simp only
  rcases hz with ⟨rfl, hg, hh, hc⟩ | ⟨rfl, hg | ⟨hg, hh⟩ | ⟨hg, hh, hc⟩⟩
  · have d1 : ((G : Int) == 0) = false := by simp; omega
    have d2 : decide ((1 : Int) < (H : Int)) = false := decide_eq_false (by omega)
    have d2' : decide (1 < H) = false := decide_eq_false (by omega)
    have d3 : (S.toList == s.toList) = true := by rw [hc]; simp
    clear hc hg hh
    go_enter Try.func34, Try.ntmps34
    go_wp2_with fail
    refine (HM.out _).mono ?_
    rintro e w1 ⟨rfl, rfl⟩
    go_wp2_with fail
    refine (HN1.out _).mono ?_
    rintro e w1 ⟨rfl, rfl⟩
    go_wp2_with fail
    refine (HN2.out _).mono ?_
    rintro e w1 ⟨rfl, rfl⟩
    have hz1 := HZ.out
    have hy1 := HY.out
    obtain ⟨c0, c1⟩ := hbox_of hz1
    have HZ1 := Lib.hid hz1
    have HY1 := Lib.hid hy1
    clear hz1 hy1
    go_wp2_with fail
    refine (HS.out _).mono ?_
    rintro e w1 ⟨rfl, hb⟩
    have hz2 := (hb.block _ (lt_of_block HZ1.out)).trans HZ1.out
    have hy2 := (hb.block _ (lt_of_block HY1.out)).trans HY1.out
    have HB2 := Lib.hid (HB.out.trans (hb.mono HB.out.size))
    obtain ⟨k0, k1⟩ := hbox_of hz2
    obtain ⟨l0, l1⟩ := hbox_of hy2
    obtain ⟨f0, f1⟩ : w1.frozen? ⟨w.heap.size, 0, none⟩ = false ∧ w1.frozen? ⟨w.heap.size, 1, none⟩ = false := ⟨frozen_of_row _ _ _ _ _ hy2, frozen_of_row _ _ _ _ _ hy2⟩
    clear hz2 hy2 hb
    go_wp2_with fail
    refine bodyPost_ret (v := .agg #[.int .u64 (G : Int), .int .i64 (H : Int)]) (by simp [results, Try.results34, go_sem, l0, l1]) rfl ⟨rfl, ?_⟩
    exact hbox_below HB2.out (Nat.le_refl _) _ _
  · have d1 : ((G : Int) == 0) = true := by simp [hg]
    clear hg
    rw [if_pos rfl]
    go_enter Try.func34, Try.ntmps34
    go_wp2_with fail
    refine (HM.out _).mono ?_
    rintro e w1 ⟨rfl, rfl⟩
    go_wp2_with fail
    refine (HN1.out _).mono ?_
    rintro e w1 ⟨rfl, rfl⟩
    go_wp2_with fail
    refine (HN2.out _).mono ?_
    rintro e w1 ⟨rfl, rfl⟩
    have hz1 := HZ.out
    have hy1 := HY.out
    obtain ⟨c0, c1⟩ := hbox_of hz1
    obtain ⟨l0, l1⟩ := hbox_of hy1
    have HZ1 := Lib.hid hz1
    have HY1 := Lib.hid hy1
    clear hz1 hy1
    go_wp2_with fail
    refine bodyPost_ret (v := .agg #[.int .u64 0, .int .i64 0]) (by simp [results, Try.results34, go_sem, l0, l1]) rfl ⟨rfl, ?_⟩
    exact HB.out
  · have d1 : ((G : Int) == 0) = false := by simp; omega
    have d2 : decide ((1 : Int) < (H : Int)) = true := decide_eq_true (by omega)
    have d2' : decide (1 < H) = true := decide_eq_true (by omega)
    clear hg hh
    rw [if_pos rfl]
    go_enter Try.func34, Try.ntmps34
    go_wp2_with fail
    refine (HM.out _).mono ?_
    rintro e w1 ⟨rfl, rfl⟩
    go_wp2_with fail
    refine (HN1.out _).mono ?_
    rintro e w1 ⟨rfl, rfl⟩
    go_wp2_with fail
    refine (HN2.out _).mono ?_
    rintro e w1 ⟨rfl, rfl⟩
    have hz1 := HZ.out
    have hy1 := HY.out
    obtain ⟨c0, c1⟩ := hbox_of hz1
    obtain ⟨l0, l1⟩ := hbox_of hy1
    have HZ1 := Lib.hid hz1
    have HY1 := Lib.hid hy1
    clear hz1 hy1
    go_wp2_with fail
    refine bodyPost_ret (v := .agg #[.int .u64 0, .int .i64 0]) (by simp [results, Try.results34, go_sem, l0, l1]) rfl ⟨rfl, ?_⟩
    exact HB.out
  · have d1 : ((G : Int) == 0) = false := by simp; omega
    have d2 : decide ((1 : Int) < (H : Int)) = false := decide_eq_false (by omega)
    have d2' : decide (1 < H) = false := decide_eq_false (by omega)
    have d3 : (S.toList == s.toList) = false := by simpa using hc
    clear hc hg hh
    rw [if_pos rfl]
    go_enter Try.func34, Try.ntmps34
    go_wp2_with fail
    refine (HM.out _).mono ?_
    rintro e w1 ⟨rfl, rfl⟩
    go_wp2_with fail
    refine (HN1.out _).mono ?_
    rintro e w1 ⟨rfl, rfl⟩
    go_wp2_with fail
    refine (HN2.out _).mono ?_
    rintro e w1 ⟨rfl, rfl⟩
    have hz1 := HZ.out
    have hy1 := HY.out
    obtain ⟨c0, c1⟩ := hbox_of hz1
    have HZ1 := Lib.hid hz1
    have HY1 := Lib.hid hy1
    clear hz1 hy1
    go_wp2_with fail
    refine (HS.out _).mono ?_
    rintro e w1 ⟨rfl, hb⟩
    have hz2 := (hb.block _ (lt_of_block HZ1.out)).trans HZ1.out
    have hy2 := (hb.block _ (lt_of_block HY1.out)).trans HY1.out
    have HB2 := Lib.hid (HB.out.trans (hb.mono HB.out.size))
    obtain ⟨k0, k1⟩ := hbox_of hz2
    obtain ⟨l0, l1⟩ := hbox_of hy2
    obtain ⟨f0, f1⟩ : w1.frozen? ⟨w.heap.size, 0, none⟩ = false ∧ w1.frozen? ⟨w.heap.size, 1, none⟩ = false := ⟨frozen_of_row _ _ _ _ _ hy2, frozen_of_row _ _ _ _ _ hy2⟩
    clear hz2 hy2 hb
    go_wp2_with fail
    refine bodyPost_ret (v := .agg #[.int .u64 0, .int .i64 0]) (by simp [results, Try.results34, go_sem, l0, l1]) rfl ⟨rfl, ?_⟩
    exact hbox_below HB2.out (Nat.le_refl _) _ _
/-- A sector read as a head. -/
theorem readHead_any (s : ByteArray) (w : World) : Calls Try.prog 34 #[.string s] w fun e w' => e = .returned (.agg (hdV (Mt.rdHead s.data.toList))) ∧ Below w.heap.size w w' := by
  by_cases h : s.size = 128 ∧ s.data.toList.getD 4 0 = 72
  · obtain ⟨h1, h2⟩ := h
    have hl : s.data.toList.length = 128 := h1
    have hcmp : ∀ G H : Nat, (Mt.str (Mt.hdSector G H)).toList = s.toList ↔ Mt.hdSector G H = s.data.toList := fun G H => by rw [ByteArray.toList_eq, ByteArray.toList_eq]; rfl
    obtain ⟨G, hG⟩ : ∃ G, Mt.gn s.data.toList 5 4 = G := ⟨_, rfl⟩
    obtain ⟨H, hH⟩ : ∃ H, Mt.gn s.data.toList 9 1 = H := ⟨_, rfl⟩
    by_cases hc : G ≠ 0 ∧ H ≤ 1 ∧ Mt.hdSector G H = s.data.toList
    · have := rhead_yes s w h1 h2 G H hG hH false (.inl ⟨rfl, hc.1, hc.2.1, (hcmp _ _).2 hc.2.2⟩)
      have e : Mt.rdHead s.data.toList = (G, H) := by unfold Mt.rdHead; rw [if_pos ⟨hl, h2, by rw [hG]; exact hc.1, by rw [hH]; exact hc.2.1, by rw [hG, hH]; exact hc.2.2⟩, hG, hH]
      rw [e]
      exact this
    · have := rhead_yes s w h1 h2 G H hG hH true (.inr ⟨rfl, by
        by_cases a : G = 0
        · exact .inl a
        · by_cases b : 1 < H
          · exact .inr (.inl ⟨a, b⟩)
          · exact .inr (.inr ⟨a, by omega, fun e => hc ⟨a, by omega, (hcmp _ _).1 e⟩⟩)⟩)
      have e : Mt.rdHead s.data.toList = (0, 0) := by
        unfold Mt.rdHead
        rw [if_neg]
        rintro ⟨_, _, a, b, c⟩
        rw [hG] at a; rw [hH] at b; rw [hG, hH] at c
        exact hc ⟨a, b, c⟩
      rw [e]
      exact this
  · have := rhead_no s w h
    have e : Mt.rdHead s.data.toList = (0, 0) := by
      unfold Mt.rdHead
      rw [if_neg]
      rintro ⟨a, b, _⟩
      exact h ⟨a, b⟩
    rw [e]
    exact this
end Go.Proofs.Ytmahkgkhnpffeaa
