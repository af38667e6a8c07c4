/-
  The bytes of one node are cut as one message. Nothing of the program stands here.
-/
import Derived.Test.YtfnggifadhploaaFdMath
import Derived.Test.YtfnggifadhploaaTvR
namespace Go.Proofs.Ytfnggifadhploaa.Mt

theorem sizeL_front (n : Nat) (hn : n ≤ 1048576) : sizeL (frontL 48 n) = ((frontL 48 n).length + n, 0) := by
  have h48 : (UInt8.ofNat 48).toNat = 48 := rfl
  have hn48 : ¬ ((UInt8.ofNat 48).toNat ≠ 48) := by simp
  rcases frontL_cases 48 n (by omega) hn with ⟨q, e⟩ | ⟨q, q2, e⟩ | ⟨q, q2, q3, e⟩ | ⟨q, q2, q3, e⟩ <;> rw [e]
  · have h1 : (UInt8.ofNat n).toNat = n := toNat_of (by omega)
    simp only [sizeL]
    rw [if_neg hn48, h1, if_pos q]; rfl
  · have h1 : (UInt8.ofNat n).toNat = n := toNat_of (by omega)
    have hc : (129 : UInt8).toNat = 129 := rfl
    have hg : gn [UInt8.ofNat 48, 129, UInt8.ofNat n] 2 1 = n := by
      simp only [gn, List.getD_cons_succ, List.getD_cons_zero, h1]; omega
    simp only [sizeL]
    rw [if_neg hn48, hc, if_neg (by omega), if_neg (by omega), if_neg (by simp), show 129 - 128 = 1 from rfl, hg, if_neg (by omega)]; rfl
  · have h1 : (UInt8.ofNat (n / 256)).toNat = n / 256 := toNat_of (by omega)
    have h2 : (UInt8.ofNat (n % 256)).toNat = n % 256 := toNat_of (by omega)
    have hc : (130 : UInt8).toNat = 130 := rfl
    have hg : gn [UInt8.ofNat 48, 130, UInt8.ofNat (n / 256), UInt8.ofNat (n % 256)] 2 2 = n := by
      simp only [gn, List.getD_cons_succ, List.getD_cons_zero, h1, h2]; omega
    simp only [sizeL]
    rw [if_neg hn48, hc, if_neg (by omega), if_neg (by omega), if_neg (by simp), show 130 - 128 = 2 from rfl, hg, if_neg (by omega)]; rfl
  · have h1 : (UInt8.ofNat (n / 65536)).toNat = n / 65536 := toNat_of (by omega)
    have h2 : (UInt8.ofNat (n / 256 % 256)).toNat = n / 256 % 256 := toNat_of (by omega)
    have h3 : (UInt8.ofNat (n % 256)).toNat = n % 256 := toNat_of (by omega)
    have hc : (131 : UInt8).toNat = 131 := rfl
    have hg : gn [UInt8.ofNat 48, 131, UInt8.ofNat (n / 65536), UInt8.ofNat (n / 256 % 256), UInt8.ofNat (n % 256)] 2 3 = n := by
      simp only [gn, List.getD_cons_succ, List.getD_cons_zero, h1, h2, h3]; omega
    simp only [sizeL]
    rw [if_neg hn48, hc, if_neg (by omega), if_neg (by omega), if_neg (by simp), show 131 - 128 = 3 from rfl, hg, if_neg (by omega)]; rfl
/-- One node's bytes with the tag of a message, whatever stands behind: one message. -/
theorem cut_msg {d : Nat} {kids : List Nd} {s : List UInt8} (rest : List UInt8) (h : putL (d + 1) (.mk 48 [] kids) = .ok s) : cutL (s ++ rest) = (s.length, 0) ∧ s.length ≠ 0 := by
  simp only [putL] at h
  split at h
  · cases h
  · split at h
    · cases h
    · split at h
      · cases h
      · rename_i bs _
        split at h
        · cases h
        · rename_i hbig
          simp only [List.length_nil, Nat.zero_add, List.nil_append, Except.ok.injEq] at h hbig
          have hf := frontL_length 48 bs.length
          have hs := sizeL_front bs.length (by omega)
          have h48 : (48 : Int).toNat = 48 := rfl
          rw [h48] at h
          have hl : s.length = (frontL 48 bs.length).length + bs.length := by rw [← h]; simp
          have ht : ∃ x, (s ++ rest).take 6 = frontL 48 bs.length ++ x := ⟨(bs ++ rest).take (6 - (frontL 48 bs.length).length), by
            rw [← h, List.append_assoc, List.take_append, List.take_of_length_le (by omega)]⟩
          obtain ⟨x, hx⟩ := ht
          have hz : sizeL ((s ++ rest).take 6) = (s.length, 0) := by
            rw [hx, sizeL_append _ _ (by rw [hs]; intro e; have := congrArg Prod.fst e; simp only at this; omega), hs, hl]
          refine ⟨?_, by omega⟩
          unfold cutL
          rw [hz, if_neg (by simp)]
end Go.Proofs.Ytfnggifadhploaa.Mt
