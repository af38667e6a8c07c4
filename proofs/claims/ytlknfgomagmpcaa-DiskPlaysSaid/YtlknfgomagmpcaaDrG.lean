/-
  What Lay of the document's disk comes to.
-/
import Derived.Test.YtlknfgomagmpcaaDrF
namespace Go.Proofs.Ytlknfgomagmpcaa
open Go.RowKit Go.Maps

def Mt.Dk.lmid (d : Mt.Dk) (s : List UInt8) (k : Nat) : Mt.Dk := { d with lasts := Mt.layL k s ++ d.lasts.drop k, waits := Mt.wr d.waits k }
theorem Mt.lmid_zero (d : Mt.Dk) (s : List UInt8) : d.lmid s 0 = d := by unfold Mt.Dk.lmid Mt.wr; simp [Mt.layL]
theorem Mt.lmid_all (d : Mt.Dk) (h : d.Ok) (s : List UInt8) : d.lmid s d.lasts.length = d.lay s := by
  unfold Mt.Dk.lmid Mt.Dk.lay
  have e : Mt.wr d.waits d.lasts.length = Mt.noWaits d.lasts.length := by rw [← h.len]; exact Mt.wr_all _
  rw [e, List.drop_length, List.append_nil]
theorem Mt.lmid_len (d : Mt.Dk) (s : List UInt8) (k : Nat) (hk : k ≤ d.lasts.length) : (d.lmid s k).lasts.length = d.lasts.length := by
  unfold Mt.Dk.lmid
  show (Mt.layL k s ++ d.lasts.drop k).length = _
  rw [List.length_append, Mt.layL_length, List.length_drop]; omega
theorem Mt.lmid_step (d : Mt.Dk) (h : d.Ok) (s : List UInt8) (k : Nat) (hk : k < d.lasts.length) (S : List UInt8) (hS : S = s.drop (128 * k)) :
    ({ d.lmid s k with lasts := (d.lmid s k).lasts.set k (Mt.sec1 S), waits := (d.lmid s k).waits.set k none } : Mt.Dk) = d.lmid s (k + 1) := by
  unfold Mt.Dk.lmid
  dsimp only
  rw [Mt.wr_set (by rw [h.len]; exact hk), Mt.mix_set _ _ k _ (Mt.layL_length _ _) hk, Mt.layL_snoc, hS]

section
variable {w : World} {g : Rg} {d : Mt.Dk} {t : Nat}

set_option maxHeartbeats 1000000 in
set_option maxRecDepth 100000 in
theorem elay_any (h : IsR w g t d) (s : ByteArray) (hs : s.size ≤ 1000000) : Calls Try.prog 46 #[.pointer (some ⟨g.R, 0, none⟩), .string s] w fun e w' => e = .returned (.tuple #[]) ∧ IsR w' g t (d.lay s.data.toList) ∧ Fr g w w' := by
  obtain ⟨⟨a, c0⟩, _, _, _, _, _, _⟩ := h.cells
  have HD := Lib.hid h
  obtain ⟨n, hn⟩ : ∃ n, d.lasts.length = n := ⟨_, rfl⟩
  have HN := Lib.hid hn
  have hn8 : n ≤ 8192 := by rw [← hn]; exact h.ok.most
  rw [hn] at c0
  clear hn h
  go_enter Try.func46, Try.ntmps46
  go_wp2_with fail
  go_loopw [1, 4, 5, 11] (fun v _ _ i wr => ∃ (k : Nat) (S : ByteArray), k ≤ n ∧ i = .int .i64 k ∧ v = .string S ∧ Hid (S.data.toList = s.data.toList.drop (128 * k)) ∧ Hid (IsR wr g t (d.lmid s.data.toList k)) ∧ Hid (Fr g w wr))
    (fun _ _ _ i _ => n - (intOf i).toNat)
  case atStart => exact ⟨0, s, by omega, rfl, rfl, Lib.hid (by simp), by simpa [Mt.lmid_zero] using HD, Lib.hid (Fr.refl _ _)⟩
  case round =>
    clear c0
    obtain ⟨k, S, hk, rfl, rfl, HS, HDK, HFK⟩ := hrel
    by_cases hkn : k < n
    · have hki : (k : Int) < (n : Int) := by omega
      have hk0 : (0 : Int) ≤ (k : Int) := by omega
      have HLN : Hid ((d.lmid s.data.toList k).lasts.length = n) := Lib.hid (by rw [Mt.lmid_len d _ k (by rw [HN.out]; exact hk), HN.out])
      have hkl : k < (d.lmid s.data.toList k).lasts.length := by rw [HLN.out]; exact hkn
      have HKL := Lib.hid hkl
      obtain ⟨c0, c1, ncl, ncw, nfl, nfw⟩ := HDK.out.cellsN (by omega)
      rw [HLN.out] at c0 c1
      have cl := ncl k hkl
      have fl := nfl k
      clear ncl ncw nfl nfw hkl c1
      obtain ⟨m, hm⟩ : ∃ m, Nat.min S.size 128 = m := ⟨_, rfl⟩
      have hm1 : m ≤ S.size := by rw [← hm]; exact Nat.min_le_left _ _
      have hm2 : (m : Int) ≤ (S.size : Int) := by omega
      have hm128 : m ≤ 128 := by rw [← hm]; exact Nat.min_le_right _ _
      have hmin : min (S.size : Int) 128 = (m : Int) := by
        have : Nat.min S.size 128 = min S.size 128 := rfl
        rw [this] at hm; omega
      have hm0 : (0 : Int) ≤ (m : Int) := by omega
      have HS2 : Hid ((S.extract m S.size).data.toList = s.data.toList.drop (128 * (k + 1))) := Lib.hid (by
        rw [Mt.extract_list, HS.out, List.drop_drop]
        have hl : S.size = s.data.toList.length - 128 * k := by
          have h := congrArg List.length HS.out
          rw [List.length_drop] at h
          exact h
        rcases Nat.le_total S.size 128 with h1 | h1
        · have e : m = S.size := by rw [← hm]; exact Nat.min_eq_left h1
          rw [List.drop_of_length_le (by omega), List.drop_of_length_le (by omega)]
        · have e : m = 128 := by rw [← hm]; exact Nat.min_eq_right h1
          rw [e]; congr 1)
      obtain ⟨Z, hZ⟩ : ∃ Z, Mt.str (List.replicate (128 - m) 0) = Z := ⟨_, rfl⟩
      have hZs : Z.size = 128 - m := by rw [← hZ, Mt.str_size, List.length_replicate]
      have HE : Hid ((S.extract 0 m) ++ Z = Mt.str (Mt.sec1 S.data.toList)) := Lib.hid (by
        have hb : ∀ a b : ByteArray, a.data.toList = b.data.toList → a = b := fun a b h => by
          cases a; cases b
          simp only at h
          congr 1
          exact Array.toList_inj.1 h
        apply hb
        have hl : S.data.toList.length = S.size := rfl
        rw [ByteArray.data_append, Array.toList_append, ByteArray.data_extract, Array.toList_extract, List.extract_eq_take_drop, List.drop_zero, Nat.sub_zero, Mt.str_data, ← hZ, Mt.str_data]
        unfold Mt.sec1
        rcases Nat.le_total S.size 128 with h1 | h1
        · have e : m = S.size := by rw [← hm]; exact Nat.min_eq_left h1
          rw [List.take_of_length_le (by omega), List.take_of_length_le (by omega), hl, e]
        · have e : m = 128 := by rw [← hm]; exact Nat.min_eq_right h1
          rw [e, hl, show 128 - S.size = 128 - 128 by omega])
      have HBL : Hid (∀ u, Calls Try.prog 39 #[.int .i64 (IntKind.i64.wrap (128 - (m : Int)))] u fun e w' => e = .returned (.string Z) ∧ Below u.heap.size u w') := Lib.hid (fun u => by
        have h := blank_any (128 - m) (by omega) u
        have hw : IntKind.i64.wrap (128 - (m : Int)) = ((128 - m : Nat) : Int) := by rw [IntKind.wrap_i64]; omega
        rw [hw]
        rw [hZ] at h
        exact h)
      have hadd := fun wx => run_string_add_sum (w := wx) (P := Try.prog) (S.extract 0 m) Z (by rw [hZs]; simp [ByteArray.size_extract]; omega)
      have HKP : Hid (∀ (u : World) v, (u.setCell ⟨g.bl, k, none⟩ v).cell? ⟨g.R, 0, none⟩ = u.cell? ⟨g.R, 0, none⟩) := Lib.hid (fun u v => by
        unfold World.cell?
        rw [heap_setCell_other _ _ _ _ (show g.R ≠ g.bl from by
          obtain ⟨_, _, _, _, _, h, _⟩ := HDK.out
          exact Ne.symm (h.apart (by have := HKL.out; omega)).2.2.2.1)])
      have HC : Hid (∀ u, IsR u g t (d.lmid s.data.toList k) → u.cell? ⟨g.R, 0, none⟩ = some (.slice (some ⟨g.bl, 0, none⟩) n g.cl) ∧ u.cell? ⟨g.bl, k, none⟩ = some (.string (lastT (d.lmid s.data.toList k) k)) ∧ u.frozen? ⟨g.bl, k, none⟩ = false) := Lib.hid (fun u hu => by
        obtain ⟨c0, c1, ncl, ncw, nfl, nfw⟩ := hu.cellsN (by have := HKL.out; omega)
        rw [HLN.out] at c0
        exact ⟨c0, ncl k HKL.out, nfl k⟩)
      clear hm hZ hZs
      go_upto_region 4 with fail
      go_region_held3 (fun w' => w'.cell? ⟨g.R, 0, none⟩ = some (.slice (some ⟨g.bl, 0, none⟩) n g.cl))
        (first
          | go_keep
          | exact c0'
          | (rw [HKP.out]; exact c0'))
        (first | (refine (HBL.out _).mono ?_; rintro e w2 ⟨rfl, hb⟩; have HD2 := Lib.hid (HDK.out.drew.below hb); have HF2 := Lib.hid (HFK.out.drew.below hb); have c0' := (HC.out _ HD2.out).1; have cl' := (HC.out _ HD2.out).2.1; have fl' := (HC.out _ HD2.out).2.2; clear hb))
      rw [HE.out]
      have HS3 := Lib.hid (HD2.out.setL k HKL.out (Mt.sec1 S.data.toList) (Mt.sec1_length _))
      have HF3 := Lib.hid (HF2.out.setCell (x := g.bl) (i := k) (.inr (.inl rfl)) (.string (Mt.str (Mt.sec1 S.data.toList))))
      have HKL2 : Hid (k < ((d.lmid s.data.toList k).lasts.set k (Mt.sec1 S.data.toList)).length) := Lib.hid (by rw [List.length_set]; exact HKL.out)
      have HLN2 : Hid (((d.lmid s.data.toList k).lasts.set k (Mt.sec1 S.data.toList)).length = n) := Lib.hid (by rw [List.length_set]; exact HLN.out)
      have HEND : Hid (∀ u, IsR u g t { d.lmid s.data.toList k with lasts := (d.lmid s.data.toList k).lasts.set k (Mt.sec1 S.data.toList) } → IsR (u.setCell ⟨g.bw, k, none⟩ (.string ByteArray.empty)) g t (d.lmid s.data.toList (k + 1))) := Lib.hid (by
        intro u hu
        have h2 := hu.setW k HKL2.out none (fun b hb => by cases hb)
        rw [← Mt.lmid_step d HD.out.ok s.data.toList k (by rw [HN.out]; exact hkn) S.data.toList HS.out]
        exact h2)
      clear c0' cl' fl' c0 cl fl hadd HE HBL HDK HFK
      generalize (w2.setCell ⟨g.bl, k, none⟩ (.string (Mt.str (Mt.sec1 S.data.toList)))) = u at *
      obtain ⟨c0, c1, ncl, ncw, nfl, nfw⟩ := HS3.out.cellsN (by have := HKL2.out; show ((d.lmid s.data.toList k).lasts.set k (Mt.sec1 S.data.toList)).length ≠ 0; omega)
      dsimp only at c0 c1
      rw [HLN2.out] at c0 c1
      have cw := ncw k HKL2.out
      have fw := nfw k
      clear ncl ncw nfl nfw
      go_wp2_with fail
      go_roundw
      case rel => exact ⟨k + 1, _, by omega, by go_num, rfl, HS2, Lib.hid (HEND.out _ HS3.out), Lib.hid (HF3.out.setCell (.inr (.inr rfl)) _)⟩
      case measure => simp [intOf]; omega
    · obtain rfl : k = n := by omega
      go_wp2_with fail
      refine bodyPost_end (results_none rfl _ _ _) rfl ?_
      refine ⟨rfl, ?_, HFK.out⟩
      rw [← Mt.lmid_all d HD.out.ok, HN.out]
      exact HDK.out
end
end Go.Proofs.Ytlknfgomagmpcaa
