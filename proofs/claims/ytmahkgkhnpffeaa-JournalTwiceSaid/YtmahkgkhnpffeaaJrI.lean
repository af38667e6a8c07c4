/-
  What Left, Len, Gen come to.
-/
import Derived.Test.YtmahkgkhnpffeaaJrH
namespace Go.Proofs.Ytmahkgkhnpffeaa
open Go.RowKit
section
variable {w u : World} {J B bl bm : Nat} {j : Mt.Jn} {d : Mt.Dk}
theorem len_nil (w : World) : Calls Try.prog 12 #[.pointer none] w fun e w' => e = .returned (.int .i64 0) ∧ w = w' := by
  go_enter Try.func12, Try.ntmps12
  go_wp2
  go_ret
  exact ⟨rfl, rfl⟩
theorem gen_nil (w : World) : Calls Try.prog 14 #[.pointer none] w fun e w' => e = .returned (.int .i64 0) ∧ w = w' := by
  go_enter Try.func14, Try.ntmps14
  go_wp2
  go_ret
  exact ⟨rfl, rfl⟩
theorem left_nil (w : World) : Calls Try.prog 17 #[.pointer none] w fun e w' => e = .returned (.int .i64 0) ∧ w = w' := by
  go_enter Try.func17, Try.ntmps17
  go_wp2
  go_ret
  exact ⟨rfl, rfl⟩
theorem len_any (h : IsJ w J B j) : Calls Try.prog 12 #[.pointer (some ⟨J, 0, none⟩)] w fun e w' => e = .returned (.int .i64 (j.count : Int)) ∧ w = w' := by
  obtain ⟨c0, c1, c2, c3, c4, c5, c6⟩ := h.cells
  clear h
  go_enter Try.func12, Try.ntmps12
  go_wp2
  go_ret
  exact ⟨rfl, rfl⟩
theorem gen_any (h : IsJ w J B j) (hg : j.gen ≤ 4294967296) : Calls Try.prog 14 #[.pointer (some ⟨J, 0, none⟩)] w fun e w' => e = .returned (.int .i64 (j.gen : Int)) ∧ w = w' := by
  obtain ⟨c0, c1, c2, c3, c4, c5, c6⟩ := h.cells
  have hw : IntKind.i64.wrap (j.gen : Int) = (j.gen : Int) := IntWalk.i64_in _ (by omega)
  clear h
  generalize j.gen = g at *
  go_enter Try.func14, Try.ntmps14
  go_wp2
  go_ret
  exact ⟨rfl, rfl⟩
set_option maxRecDepth 100000 in
theorem left_any (h : JD w J B bl bm j d) : Calls Try.prog 17 #[.pointer (some ⟨J, 0, none⟩)] w fun e w' => e = .returned (.int .i64 (j.left d : Int)) ∧ Below w.heap.size w w' := by
  obtain ⟨F, hF⟩ : ∃ F, j.first d.lasts.length = F := ⟨_, rfl⟩
  obtain ⟨z, hz⟩ : ∃ z, Mt.hsize d.lasts.length = z := ⟨_, rfl⟩
  obtain ⟨R, hR⟩ : ∃ R, d.room = R := ⟨_, rfl⟩
  obtain ⟨U, hU⟩ : ∃ U, j.used = U := ⟨_, rfl⟩
  have HC : Hid (∀ u, Below w.heap.size w u → u.cell? ⟨J, 0, none⟩ = some (.pointer (some ⟨B, 0, none⟩)) ∧ u.cell? ⟨J, 5, none⟩ = some (.int .i64 (U : Int))) := Lib.hid (fun u (hb : Below w.heap.size w u) => by have := (h.below hb).jn.cells; rw [hU] at this; exact ⟨this.1, this.2.2.2.2.2.1⟩)
  have HFI : Hid (∀ u, Below w.heap.size w u → Calls Try.prog 28 #[.pointer (some ⟨J, 0, none⟩)] u fun e w' => e = .returned (.int .i64 (F : Int)) ∧ Below u.heap.size u w') := Lib.hid (fun u hb => by rw [← hF]; exact first_any (h.below hb))
  have HSI : Hid (∀ u, Below w.heap.size w u → Calls Try.prog 29 #[.pointer (some ⟨J, 0, none⟩)] u fun e w' => e = .returned (.int .i64 (z : Int)) ∧ u = w') := Lib.hid (fun u hb => by rw [← hz]; exact size_any (h.below hb))
  have HRO : Hid (∀ u, Below w.heap.size w u → Calls Try.prog 30 #[.pointer (some ⟨B, 0, none⟩)] u fun e w' => e = .returned (.int .i64 (R : Int)) ∧ u = w') := Lib.hid (fun u hb => by rw [← hR]; exact room_any (h.below hb).dk)
  have hzl : z ≤ 4095 := by rw [← hz]; exact hsize_le h
  have hFl : F ≤ 4097 := by
    rw [← hF]
    unfold Mt.Jn.first
    have := hsize_le h
    have hh := h.half
    have : j.half = 0 ∨ j.half = 1 := by omega
    rcases this with e | e <;> rw [e] <;> omega
  have hRl : R ≤ 8192 := by rw [← hR]; exact Nat.le_trans h.dk.ok.room h.dk.ok.most
  have hUl : U ≤ 8192 := by rw [← hU]; exact h.used
  have HL := Lib.hid (show (j.left d : Int) = ((min (F + z) R - F - U : Nat) : Int) by rw [← hF, ← hz, ← hR, ← hU]; rfl)
  generalize (j.left d : Int) = r at HL ⊢
  have h1 : IntKind.i64.wrap ((F : Int) + (z : Int)) = (F : Int) + (z : Int) := IntWalk.i64_in _ (by omega)
  have HBD := Lib.hid (And.intro hzl (And.intro hFl (And.intro hRl hUl)))
  have HK := Lib.hid ((Below.refl w.heap.size w).drew)
  have q0 := (HC.out _ (Below.refl _ _)).1
  have q5 := (HC.out _ (Below.refl _ _)).2
  clear h hz hF hR hU hzl hFl hRl hUl
  go_enter Try.func17, Try.ntmps17
  go_upto_region 3 with fail
  go_region_held3 (fun w' => w'.cell? ⟨J, 0, none⟩ = some (.pointer (some ⟨B, 0, none⟩)) ∧ w'.cell? ⟨J, 5, none⟩ = some (.int .i64 (U : Int)))
    (first
      | go_keep
      | exact qq)
    (first
      | (go_at_call 28; (with_reducible refine (HFI.out _ HK.out).mono ?_); rintro e w2 ⟨rfl, hb⟩; have HK := Lib.hid (HK.out.trans (hb.mono HK.out.size)); have qq := HC.out _ HK.out; clear hb)
      | (go_at_call 29; (with_reducible refine (HSI.out _ HK.out).mono ?_); rintro e w2 ⟨rfl, rfl⟩)
      | (go_at_call 30; (with_reducible refine (HRO.out _ HK.out).mono ?_); rintro e w2 ⟨rfl, rfl⟩))
  all_goals
    have HK := Lib.hid (HK.out.drew)
    go_upto_region 4 with fail
    go_region_held3 (fun w' => w'.cell? ⟨J, 0, none⟩ = some (.pointer (some ⟨B, 0, none⟩)) ∧ w'.cell? ⟨J, 5, none⟩ = some (.int .i64 (U : Int)))
      (first
        | go_keep
        | exact qq)
      (first
        | (go_at_call 28; (with_reducible refine (HFI.out _ HK.out).mono ?_); rintro e w2 ⟨rfl, hb⟩; have HK := Lib.hid (HK.out.trans (hb.mono HK.out.size)); have qq := HC.out _ HK.out; clear hb))
    all_goals
      go_wp2_with fail
      go_ret
      refine ⟨Mt.ret_int ?_, HK.out⟩
      obtain ⟨b1, b2, b3, b4⟩ := HBD.out
      have a1 : IntKind.i64.wrap (min ((F : Int) + (z : Int)) (R : Int) - (F : Int)) = min ((F : Int) + (z : Int)) (R : Int) - (F : Int) := IntWalk.i64_in _ (by omega)
      have a2 : IntKind.i64.wrap (min ((F : Int) + (z : Int)) (R : Int) - (F : Int) - (U : Int)) = min ((F : Int) + (z : Int)) (R : Int) - (F : Int) - (U : Int) := IntWalk.i64_in _ (by omega)
      rw [HL.out, a1, a2]
      omega
end
end Go.Proofs.Ytmahkgkhnpffeaa
