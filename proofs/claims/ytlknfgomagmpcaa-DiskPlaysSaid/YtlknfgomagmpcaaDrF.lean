/-
  What Image and Lay of the document's disk come to.
-/
import Derived.Test.YtlknfgomagmpcaaDrE
import Derived.Lib.AppendStr
namespace Go.Proofs.Ytlknfgomagmpcaa
open Go.RowKit Go.Maps

theorem strCells_cs (L : List UInt8) : Lib.strCells (Mt.str L) = Mt.cs L := by
  simp [Lib.strCells, Mt.cs, Mt.str_data]
theorem conv_nil0 (w : World) : (convert 71 9 (.slice none 0 0)).run Try.prog w = .ok (.string ByteArray.empty) w := by kernel_rfl
section
variable {w : World} {g : Rg} {d : Mt.Dk} {t : Nat}

set_option maxHeartbeats 1000000 in
set_option maxRecDepth 100000 in
theorem eimage_any (h : IsR w g t d) : Calls Try.prog 19 #[.pointer (some ⟨g.R, 0, none⟩)] w fun e w' => e = .returned (.string (Mt.str d.image)) ∧ Below w.heap.size w w' := by
  obtain ⟨i0, hi, hz0, hz1, hz2⟩ := info_parts Try.infoU8
  obtain ⟨⟨a, c0⟩, _, _, _, _, _, _⟩ := h.cells
  have HD := Lib.hid h
  obtain ⟨n, hn⟩ : ∃ n, d.lasts.length = n := ⟨_, rfl⟩
  have HN := Lib.hid hn
  have hn8 : n ≤ 8192 := by rw [← hn]; exact h.ok.most
  have HA : Hid (n ≠ 0 → a = some ⟨g.bl, 0, none⟩) := Lib.hid (fun h0 => by
    have h2 := (h.cellsN (by rw [hn]; exact h0)).1
    rw [c0] at h2
    injection h2 with h2
    injection h2)
  rw [hn] at c0
  clear hn h
  go_enter Try.func19, Try.ntmps19
  go_wp2_with fail
  go_loopw [3, 5, 11] (fun v _ i wr => ∃ k : Nat, k ≤ n ∧ i = .int .i64 k ∧ Hid (wr.ownsRow w.heap.size 5 1 v (k * 128) (Mt.cs (d.lasts.take k).flatten)) ∧ Hid (Below w.heap.size w wr) ∧ Hid (k = 0 → v = .slice none 0 0))
    (fun _ _ i _ => n - (intOf i).toNat)
  case atStart => exact ⟨0, by omega, rfl, Lib.hid (World.ownsRow_nil _ _ _ _), Lib.hid (Below.refl _ _), Lib.hid (fun _ => rfl)⟩
  case round =>
    clear c0
    obtain ⟨k, hk, rfl, HO, HB, HNIL⟩ := hrel
    by_cases hkn : k < n
    · obtain rfl := HA.out (by omega)
      have hki : (k : Int) < (n : Int) := by omega
      have hk0 : (0 : Int) ≤ (k : Int) := by omega
      have hkl : k < d.lasts.length := by rw [HN.out]; exact hkn
      have cl : wr.cell? ⟨g.bl, k, none⟩ = some (.string (Mt.str (d.lasts[k]))) := by
        have h := (HD.out.below HB.out).cellsN (by omega)
        rw [h.2.2.1 k hkl]
        unfold lastT
        rw [List.getD_eq_getElem?_getD, List.getElem?_eq_getElem hkl]; rfl
      have HLS := Lib.hid (HD.out.ok.lasts k hkl)
      have HFT := Lib.hid (Mt.flatten_take d.lasts k hkl)
      have HSZ : Hid ((Mt.str (d.lasts[k])).size = 128) := Lib.hid (by rw [Mt.str_size]; exact HLS.out)
      go_wp2_with (at_builtin; go_must (refine Lib.wpList_append_own_string _ rfl _ _ 71 9 rfl w.heap.size 5 i0 Try.underlying71 Try.underlying9 hi hz0 hz1 hz2 u3 (k * 128) _ rfl HO.out (Mt.str (d.lasts[k])) rfl (by rw [HSZ.out]; unfold maxLen; omega) (by rw [HSZ.out]; omega) HB.out.size ?_); intro v2 w2 hown2 hgr2 _)
      rw [HSZ.out, strCells_cs, ← Mt.cs_append, ← HFT.out, show k * 128 + 128 = (k + 1) * 128 by omega] at hown2
      have HO2 := Lib.hid hown2
      have HB2 := Lib.hid (HB.out.grown hgr2 HB.out.size (fun j hj => (HO.out.lt j hj).1))
      clear hown2 hgr2 HO HB HFT cl
      go_roundw
      case rel => exact ⟨k + 1, by omega, by go_num, HO2, HB2, Lib.hid (fun h => by omega)⟩
      case measure => simp [intOf]; omega
    · obtain rfl : k = n := by omega
      rcases Nat.eq_zero_or_pos k with h0 | h0
      · subst h0
        obtain rfl := HNIL.out rfl
        have HE : Hid (Mt.str d.image = ByteArray.empty) := Lib.hid (by
          have : d.lasts = [] := List.eq_nil_of_length_eq_zero HN.out
          unfold Mt.Dk.image
          rw [this]; rfl)
        clear HO
        have hcv := conv_nil0 wr
        go_wp2_with fail
        go_ret
        exact ⟨by rw [HE.out]; rfl, HB.out⟩
      · obtain ⟨g', cap, rfl⟩ := own_form HO.out (by omega)
        have HCV : Hid ((convert 71 9 (.slice (some ⟨g', 0, none⟩) (k * 128) cap)).run Try.prog wr = .ok (.string (Mt.str d.image)) wr) := Lib.hid (by
          have hl : d.image.length = k * 128 := by rw [Mt.Dk.image_length HD.out.ok, HN.out]; omega
          have h := run_convert_bytes_back (P := Try.prog) wr 71 9 5 ⟨g', 0, none⟩ cap d.image Try.underlying71 Try.underlying5 Try.underlying9 (fun j hj => by
            rw [add_off, Nat.zero_add, HO.out.cellAt j (by omega)]
            have e : (d.lasts.take k).flatten = d.image := by rw [← HN.out, List.take_length]; rfl
            rw [e]
            simp [Mt.cs, List.getElem?_eq_getElem hj])
          rw [hl] at h
          exact h)
        have hcv := HCV.out
        clear HCV HO
        go_wp2_with fail
        go_ret
        exact ⟨rfl, HB.out⟩
end
end Go.Proofs.Ytlknfgomagmpcaa
