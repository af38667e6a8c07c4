/-
  What Lay and Image come to.
-/
import Derived.Test.YtmahkgkhnpffeaaDkE
import Derived.OwnWalk
namespace Go.Proofs.Ytmahkgkhnpffeaa
open Go.RowKit Go.Maps

/-- A sector out of the first bytes of a text. -/
def Mt.sec1 (s : List UInt8) : List UInt8 := s.take 128 ++ List.replicate (128 - s.length) 0
theorem Mt.sec1_length (s : List UInt8) : (Mt.sec1 s).length = 128 := by unfold Mt.sec1; rw [List.length_append, List.length_take, List.length_replicate]; omega
theorem Mt.layL_snoc : ∀ (k : Nat) (s : List UInt8), Mt.layL (k + 1) s = Mt.layL k s ++ [Mt.sec1 (s.drop (128 * k))]
  | 0, s => by simp [Mt.layL, Mt.sec1]
  | k + 1, s => by
    rw [Mt.layL, Mt.layL_snoc k (s.drop 128), List.drop_drop, show 128 + 128 * k = 128 * (k + 1) by omega]
    rfl
theorem build_sec (w : World) : (Instr.build 47 #[]).run Try.prog w = .ok (secV Mt.blank) w := by kernel_rfl
theorem Mt.mix_set (A L : List (List UInt8)) (k : Nat) (x : List UInt8) (hA : A.length = k) (hk : k < L.length) : (A ++ L.drop k).set k x = A ++ [x] ++ L.drop (k + 1) := by
  rw [List.set_append_right _ _ (by omega), hA, Nat.sub_self, List.drop_eq_getElem_cons hk, List.set_cons_zero, List.append_assoc]
  rfl

section
variable {ops : Array Oper} {rest : List Oper} {o : Oper} {a : Act} {w : World} {Q : Exit → Act → World → Prop} {B bl bm : Nat} {d : Mt.Dk}
/-- The first bytes of a text are copied into a sector of noughts. -/
theorem IsDisk.copy (h : IsDisk w B bl bm d) (i : Nat) (hi : i < d.lasts.length) (hz : d.lasts[i] = Mt.blank) (s : ByteArray) (ty : TypeId) :
    (Builtin.copy_ #[48, 9] ty #[.slice (some ⟨bl, i * 128, none⟩) 128 128, .string s]).run Try.prog w = .ok (goInt (Nat.min s.size 128)) (w.setRow bl (flat (d.lasts.set i (Mt.sec1 s.data.toList)))) := by
  have hf := flat_size d.lasts h.ok.lasts
  have hl : s.data.toList.length = s.size := rfl
  obtain ⟨n, hn⟩ : ∃ n, Nat.min s.size 128 = n := ⟨_, rfl⟩
  have hn1 : n ≤ 128 := by rw [← hn]; exact Nat.min_le_right _ _
  have hn2 : n ≤ s.size := by rw [← hn]; exact Nat.min_le_left _ _
  have hr := run_copy_str (P := Try.prog) w 48 9 ty 5 bl (i * 128) 128 128 n s (flat d.lasts) 47 Try.underlying48 Try.szU8 h.secs hn (by rw [hf]; omega)
  have hp := flat_put d.lasts h.ok.lasts i n hi (s.data.toList.take n) (by rw [List.length_take]; omega) hn1
  rw [Nat.mul_comm 128 i] at hp
  rw [hn, hr, hp, hz]
  have e : s.data.toList.take n ++ Mt.blank.drop n = Mt.sec1 s.data.toList := by
    unfold Mt.sec1 Mt.blank
    rw [List.drop_replicate]
    rcases Nat.le_total s.size 128 with h1 | h1
    · have : n = s.size := by rw [← hn]; exact Nat.min_eq_left h1
      subst this
      rw [List.take_of_length_le (by omega), List.take_of_length_le (by omega), hl]
    · have : n = 128 := by rw [← hn]; exact Nat.min_eq_right h1
      subst this
      rw [hl, show 128 - s.size = 128 - 128 by omega]
  rw [e]

theorem lay_nil (s : ByteArray) (w : World) : Calls Try.prog 10 #[.pointer none, .string s] w fun e w' => e = .returned (.tuple #[]) ∧ w = w' := by
  go_enter Try.func10, Try.ntmps10
  go_wp2
  refine bodyPost_ret (results_none rfl _ _ _) rfl ?_
  exact ⟨rfl, rfl⟩

set_option maxHeartbeats 1000000 in
set_option maxRecDepth 100000 in
theorem lay_any (h : IsDisk w B bl bm d) (s : ByteArray) : Calls Try.prog 10 #[.pointer (some ⟨B, 0, none⟩), .string s] w fun e w' => e = .returned (.tuple #[]) ∧ IsDisk w' B bl bm (d.lay s.data.toList) ∧ OnlyS [B, bl, bm] w w' := by
  have HD := Lib.hid h
  have h0 := h.c0
  have hn8 := h.ok.most
  clear h
  obtain ⟨n, hn⟩ : ∃ n, d.lasts.length = n := ⟨_, rfl⟩
  have HN := Lib.hid hn
  rw [hn] at h0 hn8
  clear hn
  have HZZ := Lib.hid (show Value.agg Try.zeroCells47 = secV Mt.blank by kernel_rfl)
  go_enter Try.func10, Try.ntmps10
  go_wp2_with fail
  go_loopw [1, 12] (fun v i wr => ∃ (k : Nat) (S : ByteArray), k ≤ n ∧ i = .int .i64 k ∧ v = .string S ∧ Hid (S.data.toList = s.data.toList.drop (128 * k)) ∧ Hid (IsDisk wr B bl bm { d with lasts := Mt.layL k s.data.toList ++ d.lasts.drop k }) ∧ Hid (OnlyS [B, bl, bm] w wr))
    (fun _ i _ => n - (intOf i).toNat)
  case atStart => exact ⟨0, s, by omega, rfl, rfl, Lib.hid (by simp), by simpa [Mt.layL] using HD, Lib.hid (OnlyS.refl _ _)⟩
  case round =>
    clear HD h0
    obtain ⟨k, S, hk, rfl, rfl, HS, HDK, HOK⟩ := hrel
    by_cases hlt : k < n
    · have hki : (k : Int) < (n : Int) := by omega
      have hLL : (Mt.layL k s.data.toList ++ d.lasts.drop k).length = n := by rw [List.length_append, Mt.layL_length, List.length_drop, HN.out]; omega
      have h0 := HDK.out.c0
      dsimp only at h0
      rw [hLL] at h0
      have HLL := Lib.hid hLL
      have HPT := Lib.hid (HDK.out.put k (by show k < (Mt.layL k s.data.toList ++ d.lasts.drop k).length; omega) Mt.blank Mt.blank_length)
      clear hLL
      have HD2 := Lib.hid HPT.out.2
      have HO2 := Lib.hid (HOK.out.setRow (g := bl) (by simp) (flat ((Mt.layL k s.data.toList ++ d.lasts.drop k).set k Mt.blank)))
      have hst := HPT.out.1
      clear HPT
      have HST := Lib.hid hst
      clear hst
      have h02 := HD2.out.c0
      dsimp only at h02 HD2 HO2
      rw [List.length_set, HLL.out] at h02
      have HCP := Lib.hid (fun ty => HD2.out.copy k (by show k < ((Mt.layL k s.data.toList ++ d.lasts.drop k).set k Mt.blank).length; rw [List.length_set, HLL.out]; exact hlt) (by simp) S ty)
      have HN4 := Lib.hid (HD2.out.setSecs (((Mt.layL k s.data.toList ++ d.lasts.drop k).set k Mt.blank).set k (Mt.sec1 S.data.toList)) (HD2.out.ok.putSec k _ (Mt.sec1_length _)) (by simp))
      have HO4 := Lib.hid (HO2.out.setRow (g := bl) (by simp) (flat (((Mt.layL k s.data.toList ++ d.lasts.drop k).set k Mt.blank).set k (Mt.sec1 S.data.toList))))
      have HEQ : Hid (((Mt.layL k s.data.toList ++ d.lasts.drop k).set k Mt.blank).set k (Mt.sec1 S.data.toList) = Mt.layL (k + 1) s.data.toList ++ d.lasts.drop (k + 1)) := Lib.hid (by
        rw [List.set_set, Mt.mix_set _ _ k _ (Mt.layL_length _ _) (by rw [HN.out]; exact hlt), HS.out, Mt.layL_snoc])
      dsimp only at HCP HN4 HO4
      rw [HEQ.out] at HCP HN4 HO4
      obtain ⟨m, hm⟩ : ∃ m, Nat.min S.size 128 = m := ⟨_, rfl⟩
      have hm1 : m ≤ S.size := by rw [← hm]; exact Nat.min_le_left _ _
      have hm2 : (m : Int) ≤ (S.size : Int) := by omega
      have HS2 : Hid ((S.extract m S.size).data.toList = s.data.toList.drop (128 * (k + 1))) := Lib.hid (by
        rw [Mt.extract_list, HS.out, List.drop_drop]
        have hl : S.size = s.data.toList.length - 128 * k := by
          have h := congrArg List.length HS.out
          rw [List.length_drop] at h
          exact h
        rcases Nat.le_total S.size 128 with h1 | h1
        · have e : m = S.size := by rw [← hm]; exact Nat.min_eq_left h1
          rw [List.drop_of_length_le (by omega), List.drop_of_length_le (by omega)]
        · have e : m = 128 := by rw [← hm]; exact Nat.min_eq_right h1
          rw [e]; congr 1)
      rw [hm] at HCP
      clear hm
      generalize (wr.setRow bl (flat ((Mt.layL k s.data.toList ++ d.lasts.drop k).set k Mt.blank))) = w3 at *
      go_wp2_with (first | (refine wpList_store_run rfl 47 _ _ rfl _ (secV Mt.blank) rfl HZZ.out w3 HST.out ?_) | (refine wpList_copy_run _ rfl _ _ 48 9 rfl _ _ rfl rfl HCP.out ?_))
      go_roundw
      case rel => exact ⟨k + 1, _, by omega, by go_num, rfl, HS2, HN4, HO4⟩
      case measure => simp [intOf]; omega
    · obtain rfl : k = n := by omega
      have HN4 : Hid (IsDisk wr B bl bm { d with lasts := Mt.layL d.lasts.length s.data.toList }) := Lib.hid (by
        have h := HDK.out
        rw [← HN.out, List.drop_length, List.append_nil] at h
        exact h)
      have hc1 := HDK.out.c1
      obtain ⟨u, hu, hdu, hou⟩ := HN4.out.clear 0
      have hu' : ∀ ty, (Builtin.clear_ #[43] ty #[.map (some bm)]).run Try.prog wr = .ok (.tuple #[]) u := fun ty => hu
      have HU := Lib.hid hu'
      have HDU := Lib.hid hdu
      have HOU := Lib.hid (HOK.out.trans hou)
      clear hu hu' hdu hou HDK HN4 HOK
      go_wp2_with (refine wpList_clear_run rfl _ rfl _ rfl u HU.out ?_)
      refine bodyPost_end (results_none rfl _ _ _) rfl ?_
      refine ⟨rfl, ?_, HOU.out⟩
      have h := HDU.out
      rw [Mt.layL_length] at h
      exact h

theorem Mt.flatten_take (L : List (List UInt8)) (k : Nat) (hk : k < L.length) : (L.take (k + 1)).flatten = (L.take k).flatten ++ L[k] := by
  rw [List.take_succ_eq_append_getElem hk, List.flatten_append, List.flatten_cons, List.flatten_nil, List.append_nil]
theorem Mt.flatten_len (L : List (List UInt8)) (k : Nat) (hk : k ≤ L.length) (h : ∀ i (h : i < L.length), (L[i]).length = 128) : (L.take k).flatten.length = k * 128 := by
  have hc : (Mt.cs (L.take k).flatten).length = k * 128 := by
    have := flat_size (L.take k) (fun i hi => by
      rw [List.getElem_take]; exact h i (by rw [List.length_take] at hi; omega))
    unfold flat at this
    rw [List.size_toArray, List.length_take, Nat.min_eq_left hk] at this
    omega
  rwa [Mt.cs_length] at hc

end
end Go.Proofs.Ytmahkgkhnpffeaa
