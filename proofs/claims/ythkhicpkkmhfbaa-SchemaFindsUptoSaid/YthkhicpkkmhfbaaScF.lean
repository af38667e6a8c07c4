/-
  What is wrong with a class's Sup.
-/
import Derived.Test.YthkhicpkkmhfbaaScE
namespace Go.Proofs.Ythkhicpkkmhfbaa
open Go.RowKit

/-- A class at a place, behind a book in a box of its own. -/
theorem book_class {tv cv : Value} {s : Mt.Sc} (i : Nat) (hi : i < s.classes.length) {w : World} (h : IsSc w tv cv s) :
    ∃ (b off cap : Nat) (m y : Value) (w1 : World), cv = .slice (some ⟨b, off, none⟩) s.classes.length cap ∧ s.classes.length ≤ cap ∧ b < w.heap.size ∧ w.alloc (.cells #[tv, cv] 59) = w1 ∧ w1.heap.size = w.heap.size + 1 ∧ Hid (Below w.heap.size w w1) ∧
      Hid (∀ u, Below (w.heap.size + 1) w1 u → u.cell? ⟨w.heap.size, 0, none⟩ = some tv ∧ u.cell? ⟨w.heap.size, 1, none⟩ = some cv ∧ u.cell? ⟨b, off + i * 5, none⟩ = some (.string (Mt.str s.classes[i].name)) ∧ u.cell? ⟨b, off + i * 5 + 1, none⟩ = some (.string (Mt.str s.classes[i].sup)) ∧ u.cell? ⟨b, off + i * 5 + 2, none⟩ = some (.int .i64 s.classes[i].kind) ∧ u.cell? ⟨b, off + i * 5 + 3, none⟩ = some m ∧ u.cell? ⟨b, off + i * 5 + 4, none⟩ = some y) ∧
      Hid (∀ u, Below w.heap.size w u → IsNms u m s.classes[i].must ∧ IsNms u y s.classes[i].may) := by
  obtain ⟨a, cap, hv, hcap, hcell⟩ := h.classes
  obtain ⟨b, off, m, y, e0, hbl, h0, h1, h2, h3, h4, h5, h6⟩ := hcell.out i hi
  subst e0
  refine ⟨b, off, cap, m, y, _, hv, hcap, hbl, rfl, by simp, Lib.hid ((Below.refl _ w).alloc (Nat.le_refl _) _), Lib.hid fun u hu => ?_, Lib.hid fun u hu => ⟨h5.below hu, h6.below hu⟩⟩
  have hrow := (hu.block w.heap.size (by omega)).trans (heap_alloc_new w (.cells #[tv, cv] 59))
  have hb : Below w.heap.size w u := ((Below.refl _ w).alloc (Nat.le_refl _) _).trans (hu.mono (Nat.le_succ _))
  exact ⟨by rw [cell_of_row _ _ _ _ _ _ hrow]; rfl, by rw [cell_of_row _ _ _ _ _ _ hrow]; rfl, (hb.cell (p := ⟨b, _, none⟩) hbl).trans h0, (hb.cell (p := ⟨b, _, none⟩) hbl).trans h1, (hb.cell (p := ⟨b, _, none⟩) hbl).trans h2, (hb.cell (p := ⟨b, _, none⟩) hbl).trans h3, (hb.cell (p := ⟨b, _, none⟩) hbl).trans h4⟩
/-- Only the kind of one at another place. -/
theorem kind_at {tv cv : Value} {s : Mt.Sc} (j : Nat) (hj : j < s.classes.length) {w : World} (h : IsSc w tv cv s) {b off cap : Nat} (hv : cv = .slice (some ⟨b, off, none⟩) s.classes.length cap) :
    Hid (∀ u, Below w.heap.size w u → u.cell? ⟨b, off + j * 5 + 2, none⟩ = some (.int .i64 s.classes[j].kind)) := by
  obtain ⟨a, cap', hv', hcap, hcell⟩ := h.classes
  obtain ⟨b', off', m, y, e0, hbl, h0, h1, h2, h3, h4, h5, h6⟩ := hcell.out j hj
  subst e0
  rw [hv'] at hv
  cases hv
  exact Lib.hid fun u hu => (hu.cell (p := ⟨b, _, none⟩) hbl).trans h2
theorem box5_of {w : World} {b : Nat} {v0 v1 v2 v3 v4 : Value} {T : TypeId} (h : w.heap[b]? = some (.cells #[v0, v1, v2, v3, v4] T)) :
    (w.cell? ⟨b, 0, none⟩ = some v0 ∧ w.cell? ⟨b, 1, none⟩ = some v1 ∧ w.cell? ⟨b, 2, none⟩ = some v2 ∧ w.cell? ⟨b, 3, none⟩ = some v3 ∧ w.cell? ⟨b, 4, none⟩ = some v4) ∧
    (w.frozen? ⟨b, 0, none⟩ = false ∧ w.frozen? ⟨b, 1, none⟩ = false ∧ w.frozen? ⟨b, 2, none⟩ = false ∧ w.frozen? ⟨b, 3, none⟩ = false ∧ w.frozen? ⟨b, 4, none⟩ = false) :=
  ⟨⟨by rw [cell_of_row _ _ _ _ _ _ h]; rfl, by rw [cell_of_row _ _ _ _ _ _ h]; rfl, by rw [cell_of_row _ _ _ _ _ _ h]; rfl, by rw [cell_of_row _ _ _ _ _ _ h]; rfl, by rw [cell_of_row _ _ _ _ _ _ h]; rfl⟩,
   frozen_of_row _ _ _ _ _ h, frozen_of_row _ _ _ _ _ h, frozen_of_row _ _ _ _ _ h, frozen_of_row _ _ _ _ _ h, frozen_of_row _ _ _ _ _ h⟩
theorem keep5 {w : World} {B : Nat} {a : Addr} {v : Value} (hne : B ≠ a.block) (h : w.cell? a = some v) (u0 u1 u2 u3 u4 : Value) :
    (((((w.setCell ⟨B, 0, none⟩ u0).setCell ⟨B, 1, none⟩ u1).setCell ⟨B, 2, none⟩ u2).setCell ⟨B, 3, none⟩ u3).setCell ⟨B, 4, none⟩ u4).cell? a = some v := by
  rw [World.cell?_setCell_far _ _ _ _ hne, World.cell?_setCell_far _ _ _ _ hne, World.cell?_setCell_far _ _ _ _ hne, World.cell?_setCell_far _ _ _ _ hne, World.cell?_setCell_far _ _ _ _ hne]
  exact h
theorem set5_of {w : World} {b : Nat} {v0 v1 v2 v3 v4 : Value} {T : TypeId} (h : w.heap[b]? = some (.cells #[v0, v1, v2, v3, v4] T)) (u0 u1 u2 u3 u4 : Value) :
    (((((w.setCell ⟨b, 0, none⟩ u0).setCell ⟨b, 1, none⟩ u1).setCell ⟨b, 2, none⟩ u2).setCell ⟨b, 3, none⟩ u3).setCell ⟨b, 4, none⟩ u4).heap[b]? = some (.cells #[u0, u1, u2, u3, u4] T) := by
  have h0 := heap_setCell_same w b 0 _ T u0 h
  have h1 := heap_setCell_same _ b 1 _ T u1 h0
  have h2 := heap_setCell_same _ b 2 _ T u2 h1
  have h3 := heap_setCell_same _ b 3 _ T u3 h2
  exact heap_setCell_same _ b 4 _ T u4 h3
set_option maxRecDepth 100000 in
set_option maxHeartbeats 1000000 in
theorem checkSup_any {tv cv : Value} {s : Mt.Sc} (i : Nat) (hi : i < s.classes.length) {w : World} (h : IsSc w tv cv s) :
    Calls Try.prog 48 #[.agg #[tv, cv], .int .i64 (i : Int)] w fun e w' => e = .returned (.int .i64 (Mt.chkSup s i)) ∧ Below w.heap.size w w' := by
  have hg := Mt.clI_get hi
  have HK := Lib.hid (fun (u : World) (hb : Below w.heap.size w u) => supAt_any i hi (h.below hb))
  have hlen := h.clen
  have hsr := Mt.supAt_range (s := s) i
  have hst := Mt.supAt_range (s := s) i
  obtain ⟨b, off, cap, m, y, w1, hv, hcap, hbl, hw1, hs1, HA1, HP, HM⟩ := book_class i hi h
  obtain ⟨am, cm, hm, -⟩ := (HM.out w (Below.refl _ _)).1
  obtain ⟨ay, cy, hy, -⟩ := (HM.out w (Below.refl _ _)).2
  generalize s.classes[i].must.length = lm at hm
  generalize s.classes[i].may.length = ly at hy
  subst hm hy
  have HKD := Lib.hid (fun (j : Nat) (hj : j < s.classes.length) => kind_at j hj h hv)
  have HCG := Lib.hid (fun (j : Nat) (hj : j < s.classes.length) => Mt.clI_get hj)
  obtain ⟨c, hc⟩ : ∃ c, s.classes[i] = c := ⟨_, rfl⟩
  rw [hc] at HP hg
  obtain ⟨R, hR⟩ : ∃ R, Mt.chkSup s i = R := ⟨_, rfl⟩
  have hR2 := hR
  unfold Mt.chkSup at hR
  rw [hg] at hR
  rw [hR2]
  obtain ⟨k, hk⟩ : ∃ k, Mt.supAt s i = k := ⟨_, rfl⟩
  rw [hk] at hR HK hsr
  have HR := Lib.hid hR
  subst hv
  obtain ⟨n, hn⟩ : ∃ n, s.classes.length = n := ⟨_, rfl⟩
  have HN := Lib.hid hn
  rw [hn] at hcap hlen HK HP hw1 ⊢
  have hlt : i < n := by omega
  have i0 : (0 : Int) ≤ (i : Int) := by omega
  have i1 : (i : Int) < (n : Int) := by omega
  obtain ⟨N, hN⟩ : ∃ N, Mt.str c.name = N := ⟨_, rfl⟩
  obtain ⟨U, hU⟩ : ∃ U, Mt.str c.sup = U := ⟨_, rfl⟩
  rw [hN, hU] at HP
  have HU : Hid (U.toList.isEmpty = decide (c.sup = [])) := Lib.hid (by
    rw [← hU, ByteArray.toList_eq, Mt.str_data, Bool.eq_iff_iff, List.isEmpty_iff, decide_eq_true_eq])
  clear h hi hg hc hR hR2 hn hN hU hk hst HM
  go_enter Try.func48, Try.ntmps48
  go_upto_region 1 with fail
  obtain ⟨p0, p1, x0, x1, x2, x3, x4⟩ := HP.out w1 (Below.refl _ _)
  have HW0 := Lib.hid ((Below.refl (w.heap.size + 1) w1).drew)
  have HA1d := Lib.hid HA1.out.drew
  have HA1z : Hid (Below w.heap.size w (w1.alloc (.cells #[.string ⟨#[]⟩, .string ⟨#[]⟩, .int .i64 0, .slice none 0 0, .slice none 0 0] 31)).drew) := Lib.hid (HA1.out.alloc (by omega) _).drew
  have HZ : Hid ((w1.alloc (.cells #[.string ⟨#[]⟩, .string ⟨#[]⟩, .int .i64 0, .slice none 0 0, .slice none 0 0] 31)).drew.heap[w.heap.size + 1]? = some (.cells #[.string ⟨#[]⟩, .string ⟨#[]⟩, .int .i64 0, .slice none 0 0, .slice none 0 0] 31)) := Lib.hid (by
    have := heap_alloc_new w1 (.cells #[.string ⟨#[]⟩, .string ⟨#[]⟩, .int .i64 0, .slice none 0 0, .slice none 0 0] 31)
    rw [hs1] at this; exact this)
  have HW0z : Hid (Below (w.heap.size + 1) w1 (w1.alloc (.cells #[.string ⟨#[]⟩, .string ⟨#[]⟩, .int .i64 0, .slice none 0 0, .slice none 0 0] 31)).drew) := Lib.hid ((Below.refl _ w1).alloc (by omega) _).drew
  have hn0 : w.heap.size + 1 ≠ w.heap.size := by omega
  have hnb : w.heap.size + 1 ≠ b := by omega
  go_region_held3 (fun w' => w'.cell? ⟨w.heap.size, 0, none⟩ = some tv ∧ w'.cell? ⟨w.heap.size, 1, none⟩ = some (.slice (some ⟨b, off, none⟩) n cap) ∧ w'.cell? ⟨b, off + i * 5, none⟩ = some (.string N) ∧ w'.cell? ⟨b, off + i * 5 + 1, none⟩ = some (.string U) ∧ w'.cell? ⟨b, off + i * 5 + 2, none⟩ = some (.int .i64 c.kind) ∧ w'.cell? ⟨b, off + i * 5 + 3, none⟩ = some (.slice am lm cm) ∧ w'.cell? ⟨b, off + i * 5 + 4, none⟩ = some (.slice ay ly cy))
    (first
      | with_reducible exact ⟨p0, p1, x0, x1, x2, x3, x4⟩
      | with_reducible exact ⟨keep5 hn0 p0 _ _ _ _ _, keep5 hn0 p1 _ _ _ _ _, keep5 hnb x0 _ _ _ _ _, keep5 hnb x1 _ _ _ _ _, keep5 hnb x2 _ _ _ _ _, keep5 hnb x3 _ _ _ _ _, keep5 hnb x4 _ _ _ _ _⟩
      | go_keep)
    (first
      | (go_at_call 58; refine (HK.out _ HA1z.out).mono ?_; rintro e w2 ⟨rfl, hb⟩; have HB2 := Lib.hid (HA1z.out.trans (hb.mono HA1z.out.size)); have HW2 := Lib.hid (HW0z.out.trans (hb.mono (by simp [hs1]))); have hk := (hb.block (w.heap.size + 1) (by simp [hs1])).trans HZ.out; obtain ⟨⟨z0, z1, z2, z3, z4⟩, f0, f1, f2, f3, f4⟩ := box5_of hk; clear p0 p1 x0 x1 x2 x3 x4; obtain ⟨p0, p1, x0, x1, x2, x3, x4⟩ := HP.out _ HW2.out; clear hb)
      | (go_at_call 58; refine (HK.out _ HA1d.out).mono ?_; rintro e w2 ⟨rfl, hb⟩; have HB2 := Lib.hid (HA1d.out.trans (hb.mono HA1d.out.size)); have HW2 := Lib.hid (HW0.out.trans (hb.mono (by simp [hs1]))); clear p0 p1 x0 x1 x2 x3 x4; obtain ⟨p0, p1, x0, x1, x2, x3, x4⟩ := HP.out _ HW2.out; clear hb))
  all_goals
    first
      | (have hk3 := set5_of hk (.string N) (.string U) (.int .i64 c.kind) (.slice am lm cm) (.slice ay ly cy)
         have hb3 := ((((HB2.out.setCell (p := ⟨w.heap.size + 1, 0, none⟩) (Nat.le_succ _) (.string N)).setCell (p := ⟨w.heap.size + 1, 1, none⟩) (Nat.le_succ _) (.string U)).setCell (p := ⟨w.heap.size + 1, 2, none⟩) (Nat.le_succ _) (.int .i64 c.kind)).setCell (p := ⟨w.heap.size + 1, 3, none⟩) (Nat.le_succ _) (.slice am lm cm)).setCell (p := ⟨w.heap.size + 1, 4, none⟩) (Nat.le_succ _) (.slice ay ly cy)
         have hw3 := ((((HW2.out.setCell (p := ⟨w.heap.size + 1, 0, none⟩) (Nat.le_refl _) (.string N)).setCell (p := ⟨w.heap.size + 1, 1, none⟩) (Nat.le_refl _) (.string U)).setCell (p := ⟨w.heap.size + 1, 2, none⟩) (Nat.le_refl _) (.int .i64 c.kind)).setCell (p := ⟨w.heap.size + 1, 3, none⟩) (Nat.le_refl _) (.slice am lm cm)).setCell (p := ⟨w.heap.size + 1, 4, none⟩) (Nat.le_refl _) (.slice ay ly cy)
         clear p0 p1 x0 x1 x2 x3 x4 z0 z1 z2 z3 z4 f0 f1 f2 f3 f4 hk HB2 HW2
         generalize (((((w2.setCell ⟨w.heap.size + 1, 0, none⟩ (.string N)).setCell ⟨w.heap.size + 1, 1, none⟩ (.string U)).setCell ⟨w.heap.size + 1, 2, none⟩ (.int .i64 c.kind)).setCell ⟨w.heap.size + 1, 3, none⟩ (.slice am lm cm)).setCell ⟨w.heap.size + 1, 4, none⟩ (.slice ay ly cy)) = w3 at *
         obtain ⟨⟨z0, z1, z2, -, -⟩, -⟩ := box5_of hk3
         have HB3 := Lib.hid hb3
         obtain ⟨p0, p1, -, -, -, -, -⟩ := HP.out _ hw3
         clear hb3 hw3 hk3)
      | (have hk3 := heap_alloc_new w2 (.cells #[.string N, .string U, .int .i64 c.kind, .slice am lm cm, .slice ay ly cy] 31)
         have hb3 := HB2.out.alloc HB2.out.size (.cells #[.string N, .string U, .int .i64 c.kind, .slice am lm cm, .slice ay ly cy] 31)
         have hw3 := HW2.out.alloc (show w.heap.size + 1 ≤ w2.heap.size by have := HW2.out.size; omega) (.cells #[.string N, .string U, .int .i64 c.kind, .slice am lm cm, .slice ay ly cy] 31)
         clear p0 p1 x0 x1 x2 x3 x4 HB2 HW2
         generalize (w2.alloc (.cells #[.string N, .string U, .int .i64 c.kind, .slice am lm cm, .slice ay ly cy] 31)) = w3 at *
         obtain ⟨⟨z0, z1, z2, -, -⟩, -⟩ := box5_of hk3
         have HB3 := Lib.hid hb3
         obtain ⟨p0, p1, -, -, -, -, -⟩ := HP.out _ hw3
         clear hb3 hw3 hk3)
    have k0 : (k < 0) = (k = -1) := by rw [eq_iff_iff]; omega
    have HWR := Lib.hid (fun b u => wrong_any b u)
    by_cases hk : k < 0
    · have d1 : decide (k < 0) = true := decide_eq_true hk
      by_cases hsu : c.sup = []
      · have he : U.toList.isEmpty = true := by rw [HU.out, decide_eq_true hsu]
        obtain ⟨q, hq⟩ : ∃ q, decide (c.kind ≠ 0) = q := ⟨_, rfl⟩
        have hq2 : (c.kind != 0) = q := by rw [← hq, Bool.eq_iff_iff]; simp
        have HE : Hid (R = Mt.wrong q) := Lib.hid (by rw [← HR.out, if_neg (fun h => h.1 hsu), if_pos hk, hq])
        clear k0
        go_wp2_with fail
        refine (HWR.out _ _).mono ?_
        rintro e w4 ⟨rfl, rfl⟩
        go_wp2_with fail
        all_goals (go_ret; exact ⟨Mt.ret_int HE.out.symm, HB3.out⟩)
      · have he : U.toList.isEmpty = false := by rw [HU.out, decide_eq_false hsu]
        have HE : Hid (R = 22) := Lib.hid (by rw [← HR.out, if_pos ⟨hsu, hk⟩])
        clear k0
        go_wp2_with fail
        all_goals (go_ret; exact ⟨Mt.ret_int HE.out.symm, HB3.out⟩)
    · have d1 : decide (k < 0) = false := decide_eq_false hk
      obtain ⟨j, rfl⟩ := Int.eq_ofNat_of_zero_le (show 0 ≤ k by omega)
      have hjn : j < n := by omega
      have hj1 : (j : Int) < (n : Int) := by omega
      have hj0 : (0 : Int) ≤ (j : Int) := by omega
      have xk := ((HKD.out j (by rw [HN.out]; exact hjn)).out w3 HB3.out)
      have HCJ := Lib.hid (HCG.out j (by rw [HN.out]; exact hjn))
      obtain ⟨cj, hcj⟩ : ∃ cj, s.classes[j]'(by rw [HN.out]; exact hjn) = cj := ⟨_, rfl⟩
      rw [hcj] at xk HCJ
      have HE0 : Hid (R = Mt.wrong (decide (cj.kind ≠ 0) && decide (cj.kind ≠ c.kind))) := Lib.hid (by rw [← HR.out, if_neg (fun h => hk h.2), if_neg hk, HCJ.out])
      generalize cj.kind = kj at *
      generalize c.kind = kc at *
      clear k0 hcj HCJ
      by_cases e0 : kj = 0
      · subst e0
        have HE : Hid (R = Mt.wrong false) := Lib.hid (by rw [HE0.out]; rfl)
        cases hue : U.toList.isEmpty
        all_goals
          go_wp2_with fail
          refine (HWR.out _ _).mono ?_
          rintro e w4 ⟨rfl, rfl⟩
          go_wp2_with fail
          all_goals (go_ret; exact ⟨Mt.ret_int HE.out.symm, HB3.out⟩)
      · have e0b : (kj == 0) = false := beq_eq_false_iff_ne.2 e0
        have e0c : (kj != 0) = true := by simpa using e0
        obtain ⟨q, hq⟩ : ∃ q, decide (kj ≠ kc) = q := ⟨_, rfl⟩
        have hq2 : (kj != kc) = q := by rw [← hq, Bool.eq_iff_iff]; simp
        have HE : Hid (R = Mt.wrong q) := Lib.hid (by rw [HE0.out, decide_eq_true e0, Bool.true_and, hq])
        clear HE0 hq
        cases hue : U.toList.isEmpty
        all_goals
          go_wp2_with fail
          refine (HWR.out _ _).mono ?_
          rintro e w4 ⟨rfl, rfl⟩
          go_wp2_with fail
          all_goals (go_ret; exact ⟨Mt.ret_int HE.out.symm, HB3.out⟩)
end Go.Proofs.Ythkhicpkkmhfbaa
