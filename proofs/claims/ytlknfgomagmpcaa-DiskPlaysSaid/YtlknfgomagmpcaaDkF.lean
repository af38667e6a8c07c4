/-
  What Lay and Image come to.
-/
import Derived.Test.YtlknfgomagmpcaaDkE
import Derived.OwnWalk
namespace Go.Proofs.Ytlknfgomagmpcaa
open Go.RowKit Go.Maps

/-- A sector out of the first bytes of a text. -/
def Mt.sec1 (s : List UInt8) : List UInt8 := s.take 128 ++ List.replicate (128 - s.length) 0
theorem Mt.sec1_length (s : List UInt8) : (Mt.sec1 s).length = 128 := by unfold Mt.sec1; rw [List.length_append, List.length_take, List.length_replicate]; omega
theorem Mt.layL_snoc : ∀ (k : Nat) (s : List UInt8), Mt.layL (k + 1) s = Mt.layL k s ++ [Mt.sec1 (s.drop (128 * k))]
  | 0, s => by simp [Mt.layL, Mt.sec1]
  | k + 1, s => by
    rw [Mt.layL, Mt.layL_snoc k (s.drop 128), List.drop_drop, show 128 + 128 * k = 128 * (k + 1) by omega]
    rfl
theorem build_sec (w : World) : (Instr.build 73 #[]).run Try.prog w = .ok (secV Mt.blank) w := by kernel_rfl
theorem Mt.mix_set (A L : List (List UInt8)) (k : Nat) (x : List UInt8) (hA : A.length = k) (hk : k < L.length) : (A ++ L.drop k).set k x = A ++ [x] ++ L.drop (k + 1) := by
  rw [List.set_append_right _ _ (by omega), hA, Nat.sub_self, List.drop_eq_getElem_cons hk, List.set_cons_zero, List.append_assoc]
  rfl

section
variable {ops : Array Oper} {rest : List Oper} {o : Oper} {a : Act} {w : World} {Q : Exit → Act → World → Prop} {B bl bm : Nat} {d : Mt.Dk}
/-- The first bytes of a text are copied into a sector of noughts. -/
theorem IsDisk.copy (h : IsDisk w B bl bm d) (i : Nat) (hi : i < d.lasts.length) (hz : d.lasts[i] = Mt.blank) (s : ByteArray) (ty : TypeId) :
    (Builtin.copy_ #[71, 9] ty #[.slice (some ⟨bl, i * 128, none⟩) 128 128, .string s]).run Try.prog w = .ok (goInt (Nat.min s.size 128)) (w.setRow bl (flat (d.lasts.set i (Mt.sec1 s.data.toList)))) := by
  have hf := flat_size d.lasts h.ok.lasts
  have hl : s.data.toList.length = s.size := rfl
  obtain ⟨n, hn⟩ : ∃ n, Nat.min s.size 128 = n := ⟨_, rfl⟩
  have hn1 : n ≤ 128 := by rw [← hn]; exact Nat.min_le_right _ _
  have hn2 : n ≤ s.size := by rw [← hn]; exact Nat.min_le_left _ _
  have hr := run_copy_str (P := Try.prog) w 71 9 ty 5 bl (i * 128) 128 128 n s (flat d.lasts) 73 Try.underlying71 Try.szU8 h.secs hn (by rw [hf]; omega)
  have hp := flat_put d.lasts h.ok.lasts i n hi (s.data.toList.take n) (by rw [List.length_take]; omega) hn1
  rw [Nat.mul_comm 128 i] at hp
  rw [hn, hr, hp, hz]
  have e : s.data.toList.take n ++ Mt.blank.drop n = Mt.sec1 s.data.toList := by
    unfold Mt.sec1 Mt.blank
    rw [List.drop_replicate]
    rcases Nat.le_total s.size 128 with h1 | h1
    · have : n = s.size := by rw [← hn]; exact Nat.min_eq_left h1
      subst this
      rw [List.take_of_length_le (by omega), List.take_of_length_le (by omega), hl]
    · have : n = 128 := by rw [← hn]; exact Nat.min_eq_right h1
      subst this
      rw [hl, show 128 - s.size = 128 - 128 by omega]
  rw [e]

theorem lay_nil (s : ByteArray) (w : World) : Calls Try.prog 27 #[.pointer none, .string s] w fun e w' => e = .returned (.tuple #[]) ∧ w = w' := by
  go_enter Try.func27, Try.ntmps27
  go_wp2
  refine bodyPost_ret (results_none rfl _ _ _) rfl ?_
  exact ⟨rfl, rfl⟩

set_option maxHeartbeats 1000000 in
set_option maxRecDepth 100000 in
theorem lay_any (h : IsDisk w B bl bm d) (s : ByteArray) : Calls Try.prog 27 #[.pointer (some ⟨B, 0, none⟩), .string s] w fun e w' => e = .returned (.tuple #[]) ∧ IsDisk w' B bl bm (d.lay s.data.toList) ∧ OnlyS [B, bl, bm] w w' := by
  have HD := Lib.hid h
  have h0 := h.c0
  have hn8 := h.ok.most
  clear h
  obtain ⟨n, hn⟩ : ∃ n, d.lasts.length = n := ⟨_, rfl⟩
  have HN := Lib.hid hn
  rw [hn] at h0 hn8
  clear hn
  have HZZ := Lib.hid (show Value.agg Try.zeroCells73 = secV Mt.blank by kernel_rfl)
  go_enter Try.func27, Try.ntmps27
  go_wp2_with fail
  go_loopw [1, 12] (fun v i wr => ∃ (k : Nat) (S : ByteArray), k ≤ n ∧ i = .int .i64 k ∧ v = .string S ∧ Hid (S.data.toList = s.data.toList.drop (128 * k)) ∧ Hid (IsDisk wr B bl bm { d with lasts := Mt.layL k s.data.toList ++ d.lasts.drop k }) ∧ Hid (OnlyS [B, bl, bm] w wr))
    (fun _ i _ => n - (intOf i).toNat)
  case atStart => exact ⟨0, s, by omega, rfl, rfl, Lib.hid (by simp), by simpa [Mt.layL] using HD, Lib.hid (OnlyS.refl _ _)⟩
  case round =>
    clear HD h0
    obtain ⟨k, S, hk, rfl, rfl, HS, HDK, HOK⟩ := hrel
    by_cases hlt : k < n
    · have hki : (k : Int) < (n : Int) := by omega
      have hLL : (Mt.layL k s.data.toList ++ d.lasts.drop k).length = n := by rw [List.length_append, Mt.layL_length, List.length_drop, HN.out]; omega
      have h0 := HDK.out.c0
      dsimp only at h0
      rw [hLL] at h0
      have HLL := Lib.hid hLL
      have HPT := Lib.hid (HDK.out.put k (by show k < (Mt.layL k s.data.toList ++ d.lasts.drop k).length; omega) Mt.blank Mt.blank_length)
      clear hLL
      have HD2 := Lib.hid HPT.out.2
      have HO2 := Lib.hid (HOK.out.setRow (g := bl) (by simp) (flat ((Mt.layL k s.data.toList ++ d.lasts.drop k).set k Mt.blank)))
      have hst := HPT.out.1
      clear HPT
      have HST := Lib.hid hst
      clear hst
      have h02 := HD2.out.c0
      dsimp only at h02 HD2 HO2
      rw [List.length_set, HLL.out] at h02
      have HCP := Lib.hid (fun ty => HD2.out.copy k (by show k < ((Mt.layL k s.data.toList ++ d.lasts.drop k).set k Mt.blank).length; rw [List.length_set, HLL.out]; exact hlt) (by simp) S ty)
      have HN4 := Lib.hid (HD2.out.setSecs (((Mt.layL k s.data.toList ++ d.lasts.drop k).set k Mt.blank).set k (Mt.sec1 S.data.toList)) (HD2.out.ok.putSec k _ (Mt.sec1_length _)) (by simp))
      have HO4 := Lib.hid (HO2.out.setRow (g := bl) (by simp) (flat (((Mt.layL k s.data.toList ++ d.lasts.drop k).set k Mt.blank).set k (Mt.sec1 S.data.toList))))
      have HEQ : Hid (((Mt.layL k s.data.toList ++ d.lasts.drop k).set k Mt.blank).set k (Mt.sec1 S.data.toList) = Mt.layL (k + 1) s.data.toList ++ d.lasts.drop (k + 1)) := Lib.hid (by
        rw [List.set_set, Mt.mix_set _ _ k _ (Mt.layL_length _ _) (by rw [HN.out]; exact hlt), HS.out, Mt.layL_snoc])
      dsimp only at HCP HN4 HO4
      rw [HEQ.out] at HCP HN4 HO4
      obtain ⟨m, hm⟩ : ∃ m, Nat.min S.size 128 = m := ⟨_, rfl⟩
      have hm1 : m ≤ S.size := by rw [← hm]; exact Nat.min_le_left _ _
      have hm2 : (m : Int) ≤ (S.size : Int) := by omega
      have HS2 : Hid ((S.extract m S.size).data.toList = s.data.toList.drop (128 * (k + 1))) := Lib.hid (by
        rw [Mt.extract_list, HS.out, List.drop_drop]
        have hl : S.size = s.data.toList.length - 128 * k := by
          have h := congrArg List.length HS.out
          rw [List.length_drop] at h
          exact h
        rcases Nat.le_total S.size 128 with h1 | h1
        · have e : m = S.size := by rw [← hm]; exact Nat.min_eq_left h1
          rw [List.drop_of_length_le (by omega), List.drop_of_length_le (by omega)]
        · have e : m = 128 := by rw [← hm]; exact Nat.min_eq_right h1
          rw [e]; congr 1)
      rw [hm] at HCP
      clear hm
      generalize (wr.setRow bl (flat ((Mt.layL k s.data.toList ++ d.lasts.drop k).set k Mt.blank))) = w3 at *
      go_wp2_with (first | (refine wpList_store_run rfl 73 _ _ rfl _ (secV Mt.blank) rfl HZZ.out w3 HST.out ?_) | (refine wpList_copy_run _ rfl _ _ 71 9 rfl _ _ rfl rfl HCP.out ?_))
      go_roundw
      case rel => exact ⟨k + 1, _, by omega, by go_num, rfl, HS2, HN4, HO4⟩
      case measure => simp [intOf]; omega
    · obtain rfl : k = n := by omega
      have HN4 : Hid (IsDisk wr B bl bm { d with lasts := Mt.layL d.lasts.length s.data.toList }) := Lib.hid (by
        have h := HDK.out
        rw [← HN.out, List.drop_length, List.append_nil] at h
        exact h)
      have hc1 := HDK.out.c1
      obtain ⟨u, hu, hdu, hou⟩ := HN4.out.clear 0
      have hu' : ∀ ty, (Builtin.clear_ #[63] ty #[.map (some bm)]).run Try.prog wr = .ok (.tuple #[]) u := fun ty => hu
      have HU := Lib.hid hu'
      have HDU := Lib.hid hdu
      have HOU := Lib.hid (HOK.out.trans hou)
      clear hu hu' hdu hou HDK HN4 HOK
      go_wp2_with (refine wpList_clear_run rfl _ rfl _ rfl u HU.out ?_)
      refine bodyPost_end (results_none rfl _ _ _) rfl ?_
      refine ⟨rfl, ?_, HOU.out⟩
      have h := HDU.out
      rw [Mt.layL_length] at h
      exact h

theorem image_nil (w : World) : Calls Try.prog 18 #[.pointer none] w fun e w' => e = .returned (.string ByteArray.empty) ∧ w = w' := by
  go_enter Try.func18, Try.ntmps18
  go_wp2
  go_ret
  exact ⟨rfl, rfl⟩

theorem Mt.flatten_take (L : List (List UInt8)) (k : Nat) (hk : k < L.length) : (L.take (k + 1)).flatten = (L.take k).flatten ++ L[k] := by
  rw [List.take_succ_eq_append_getElem hk, List.flatten_append, List.flatten_cons, List.flatten_nil, List.append_nil]
theorem Mt.flatten_len (L : List (List UInt8)) (k : Nat) (hk : k ≤ L.length) (h : ∀ i (h : i < L.length), (L[i]).length = 128) : (L.take k).flatten.length = k * 128 := by
  have hc : (Mt.cs (L.take k).flatten).length = k * 128 := by
    have := flat_size (L.take k) (fun i hi => by
      rw [List.getElem_take]; exact h i (by rw [List.length_take] at hi; omega))
    unfold flat at this
    rw [List.size_toArray, List.length_take, Nat.min_eq_left hk] at this
    omega
  rwa [Mt.cs_length] at hc

set_option maxHeartbeats 1000000 in
set_option maxRecDepth 100000 in
theorem image_any (h : IsDisk w B bl bm d) : Calls Try.prog 18 #[.pointer (some ⟨B, 0, none⟩)] w fun e w' => e = .returned (.string (Mt.str d.image)) ∧ Below w.heap.size w w' := by
  obtain ⟨i0, hi, hz0, hz1, hz2⟩ := info_parts Try.infoU8
  have HD := Lib.hid h
  have h0 := h.c0
  have hlt := h.ltB
  have hn8 := h.ok.most
  clear h
  obtain ⟨n, hn⟩ : ∃ n, d.lasts.length = n := ⟨_, rfl⟩
  have HN := Lib.hid hn
  rw [hn] at h0 hn8
  clear hn
  have HDC : Hid (∀ w1, w.grownBy w1 none → w1.cell? ⟨B, 0, none⟩ = some (.slice (some ⟨bl, 0, none⟩) n n)) := Lib.hid (fun w1 hg => by
    have hb : Below w.heap.size w w1 := (Below.refl w.heap.size w).grown hg (Nat.le_refl _) (fun k hk => by cases hk)
    rw [hb.cell (p := ⟨B, 0, none⟩) hlt]; exact h0)
  go_enter Try.func18, Try.ntmps18
  go_wp2_with (refine wpList_make_own _ rfl _ _ 71 rfl w.heap.size 5 i0 (.int .u8 0) 1 Try.underlying71 hi hz0 hz1 .i64 .i64 _ (n * 128) rfl rfl (by omega) (by rw [hz2]; omega) (by unfold maxLen; omega) (Nat.le_refl _) ?_; intro w1 hown1 hgrow1; have h01 := HDC.out w1 hgrow1)
  have HO1 := Lib.hid hown1
  have HB1 := Lib.hid ((Below.refl w.heap.size w).grown hgrow1 (Nat.le_refl _) (fun k hk => by cases hk))
  have HD1 := Lib.hid (HD.out.below HB1.out)
  have HLT := Lib.hid (show B < w.heap.size ∧ bl < w.heap.size ∧ bm < w.heap.size from ⟨hlt, HD.out.ltL, HD.out.ltM⟩)
  clear hown1 hgrow1 HD h0 h01 HDC
  go_loopw [3, 19] (fun v i wr => ∃ k : Nat, k ≤ n ∧ i = .int .i64 k ∧ v = .slice (some ⟨w.heap.size, 0, none⟩) (k * 128) (n * 128) ∧ Hid (wr.ownsRow w.heap.size 5 1 (.slice (some ⟨w.heap.size, 0, none⟩) (k * 128) (n * 128)) (k * 128) (Mt.cs (d.lasts.take k).flatten)) ∧ Hid (Below w.heap.size w wr) ∧ Hid (IsDisk wr B bl bm d))
    (fun _ i _ => n - (intOf i).toNat)
  case atStart => exact ⟨0, by omega, rfl, by simp, by simpa [Mt.cs] using HO1, HB1, HD1⟩
  case round =>
    clear HO1 HB1 HD1
    obtain ⟨k, hk, rfl, rfl, HO, HB, HDK⟩ := hrel
    by_cases hlt2 : k < n
    · have hki : (k : Int) < (n : Int) := by omega
      have h0 := HDK.out.c0
      rw [HN.out] at h0
      have hkl : k < d.lasts.length := by rw [HN.out]; exact hlt2
      have HLS := Lib.hid (HDK.out.ok.lasts k hkl)
      have HCELL := Lib.hid (show ∀ (j : Nat) u, (Mt.cs (d.lasts[k]))[j]? = some u → wr.cell? ((⟨bl, k * 128, none⟩ : Addr).add j) = some u from fun j u hu => by
        obtain ⟨hj, rfl⟩ := Mt.cs_getD _ j u hu
        rw [add_off, cell_of_row _ _ _ _ _ _ HDK.out.secs, Nat.mul_comm k 128]
        exact flat_get d.lasts HDK.out.ok.lasts k j hkl (by rw [← HLS.out]; exact hj))
      have HFT := Lib.hid (Mt.flatten_take d.lasts k hkl)
      go_wp2_with (refine wpList_append_fits _ rfl _ _ 71 rfl w.heap.size 5 i0 1 Try.underlying71 hi hz1 w.heap.size (k * 128) (n * 128) _ rfl HO.out ⟨bl, k * 128, none⟩ 128 128 (Mt.cs (d.lasts[k])) rfl (by rw [Mt.cs_length, HLS.out]) HCELL.out (Mt.cs_one _) (by omega) ?_; intro w3 hown3 hgrow3)
      have e1 : k * 128 + 128 = (k + 1) * 128 := by omega
      rw [e1, ← Mt.cs_append, ← HFT.out] at hown3
      have HO3 := Lib.hid hown3
      have HB3 := Lib.hid (HB.out.grown hgrow3 HB.out.size (fun j hj => by cases hj; exact Nat.le_refl _))
      have HD3 := Lib.hid (HDK.out.kept (u := w3) (hgrow3.block _ HDK.out.ltB (fun e => by cases e; exact Nat.lt_irrefl _ HLT.out.1)) (hgrow3.block _ HDK.out.ltL (fun e => by cases e; exact Nat.lt_irrefl _ HLT.out.2.1)) (hgrow3.block _ HDK.out.ltM (fun e => by cases e; exact Nat.lt_irrefl _ HLT.out.2.2)))
      clear hown3 hgrow3 HO HB HDK HCELL HFT h0
      go_roundw
      case rel => exact ⟨k + 1, by omega, by go_num, by rw [e1], HO3, HB3, HD3⟩
      case measure => simp [intOf]; omega
    · obtain rfl : k = n := by omega
      have HCV : Hid ((convert 71 9 (.slice (some ⟨w.heap.size, 0, none⟩) (k * 128) (k * 128))).run Try.prog wr = .ok (.string (Mt.str d.image)) wr) := Lib.hid (by
        have hl : d.image.length = k * 128 := by rw [Mt.Dk.image_length HDK.out.ok, HN.out]; omega
        have h := run_convert_bytes_back (P := Try.prog) wr 71 9 5 ⟨w.heap.size, 0, none⟩ (k * 128) d.image Try.underlying71 Try.underlying5 Try.underlying9 (fun j hj => by
          rw [add_off, Nat.zero_add, HO.out.cellAt j (by omega)]
          have e : (d.lasts.take k).flatten = d.image := by rw [← HN.out, List.take_length]; rfl
          rw [e]
          simp [Mt.cs, List.getElem?_eq_getElem hj])
        rw [hl] at h
        exact h)
      have hcv := HCV.out
      clear HCV HO
      go_wp2_with fail
      go_ret
      exact ⟨rfl, HB.out⟩
end
end Go.Proofs.Ytlknfgomagmpcaa
