/-
  What sector and Blank come to; the chapter's examples of disks: they are met.
-/
import Derived.Test.YtlknfgomagmpcaaDkF
namespace Go.Proofs.Ytlknfgomagmpcaa
open Go.RowKit Go.Maps

theorem conv_zero (w : World) (n : Nat) (hn : n ≤ 1000000) : (convert 71 9 (.slice (some ⟨w.heap.size, 0, none⟩) n n)).run Try.prog (w.alloc (.cells (Array.replicate n (.int .u8 0)) 5)) = .ok (.string (Mt.str (List.replicate n 0))) (w.alloc (.cells (Array.replicate n (.int .u8 0)) 5)) := by
  have h := run_convert_bytes_back (P := Try.prog) (w.alloc (.cells (Array.replicate n (.int .u8 0)) 5)) 71 9 5 ⟨w.heap.size, 0, none⟩ n (List.replicate n 0) Try.underlying71 Try.underlying5 Try.underlying9 (fun j hj => by
    rw [List.length_replicate] at hj
    rw [add_off, Nat.zero_add, cell_of_row _ _ _ _ _ _ (heap_alloc_new _ _)]
    simp [hj])
  rw [List.length_replicate] at h
  exact h
theorem make_zero (w : World) (n : Nat) (hn : n ≤ 1000000) : (Instr.makeSlice 71 (.int .i64 (n : Int)) (.int .i64 (n : Int))).run Try.prog w = .ok (.slice (some ⟨w.heap.size, 0, none⟩) n n) (w.alloc (.cells (Array.replicate n (.int .u8 0)) 5)) := by
  obtain ⟨i, hi, hz, hs, hb⟩ := info_parts Try.infoU8
  have h := run_make (P := Try.prog) w 71 5 i _ Try.underlying71 hi hz .i64 .i64 (n : Int) (n : Int) (by omega) (Int.le_refl _) (by rw [hb]; omega) (by omega)
  rw [Int.toNat_natCast, hs, Nat.mul_one] at h
  have e : madeCells (Value.int .u8 0).cells n = Array.replicate n (.int .u8 0) := made_all _ _ _ 1 rfl (by decide) (fun j hj => by
    obtain rfl : j = 0 := by omega
    rfl)
  rw [e] at h
  exact h
set_option maxRecDepth 100000 in
theorem blank_any (n : Nat) (hn : n ≤ 1000000) (w : World) : Calls Try.prog 39 #[.int .i64 (n : Int)] w fun e w' => e = .returned (.string (Mt.str (List.replicate n 0))) ∧ Below w.heap.size w w' := by
  have hm := fun u => make_zero u n hn
  have hc := conv_zero w n hn
  have HB := Lib.hid (fun o => (Below.refl w.heap.size w).alloc (Nat.le_refl _) o)
  obtain ⟨z, hz⟩ : ∃ z : Int, (n : Int) = z := ⟨_, rfl⟩
  rw [hz] at hm ⊢
  clear hz
  generalize Array.replicate n (Value.int .u8 0) = Z at *
  go_enter Try.func39, Try.ntmps39
  go_wp2
  go_ret
  exact ⟨rfl, HB.out _⟩

theorem sector_long (s : ByteArray) (h : 130 < s.size) (w : World) : Calls Try.prog 22 #[.string s] w fun e w' => e = .returned (.string s) ∧ Below w.heap.size w w' := by
  have h' : (130 : Int) < (s.size : Int) := by omega
  clear h
  go_enter Try.func22, Try.ntmps22
  go_wp2
  go_ret
  exact ⟨rfl, Below.refl _ _⟩
theorem sector_short (s : ByteArray) (h : s.size ≤ 130) (w : World) : Calls Try.prog 22 #[.string s] w fun e w' => e = .returned (.string (Mt.str (Mt.sec1 s.data.toList))) ∧ Below w.heap.size w w' := by
  have h' : (s.size : Int) ≤ 130 := by omega
  have HB := Lib.hid (fun u => blank_any 128 (by decide) u)
  obtain ⟨Z, hZ⟩ : ∃ Z, Mt.str (List.replicate 128 0) = Z := ⟨_, rfl⟩
  have hZs : Z.size = 128 := by rw [← hZ, Mt.str_size, List.length_replicate]
  have HE : Hid ((s ++ Z).extract 0 128 = Mt.str (Mt.sec1 s.data.toList)) := Lib.hid (by
    have hb : ∀ a b : ByteArray, a.data.toList = b.data.toList → a = b := fun a b h => by
      cases a; cases b
      simp only at h
      congr 1
      exact Array.toList_inj.1 h
    apply hb
    have e : ((s ++ Z).extract 0 128).data.toList = ((s ++ Z).data.toList.take 128) := by
      rw [ByteArray.data_extract, Array.toList_extract, List.extract_eq_take_drop, List.drop_zero]
    rw [e, Mt.str_data, ← hZ]
    have e2 : (s ++ Mt.str (List.replicate 128 0)).data.toList = s.data.toList ++ List.replicate 128 0 := by simp [Mt.str]
    rw [e2, List.take_append, List.take_replicate]
    unfold Mt.sec1
    congr 2
    exact Nat.min_eq_left (Nat.sub_le _ _))
  rw [hZ] at HB
  have hadd := fun wx => run_string_add_sum (w := wx) (P := Try.prog) s Z (by omega)
  have hsz : (128 : Int) ≤ ((s ++ Z).size : Int) := by rw [ByteArray.size_append]; omega
  generalize s ++ Z = T at *
  clear h hZ hZs
  go_enter Try.func22, Try.ntmps22
  go_wp2_with fail
  refine (HB.out _).mono ?_
  rintro e w2 ⟨rfl, hb⟩
  have HB2 := Lib.hid hb
  clear hb
  go_wp2_with fail
  go_ret
  exact ⟨by rw [← HE.out]; rfl, HB2.out⟩
end Go.Proofs.Ytlknfgomagmpcaa
