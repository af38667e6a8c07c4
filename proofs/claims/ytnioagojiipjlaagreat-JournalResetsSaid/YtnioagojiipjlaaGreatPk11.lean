/-
  Some texts of one proof, one behind the other.
-/
import Derived.OwnWalk
import Derived.Deep.AppendLies
import Derived.Deep.RegionHeld3
import Derived.Test.YtnioagojiipjlaaGreatPk10

/-
  What Lay and Image come to.
-/
namespace Go.Proofs.YtnioagojiipjlaaGreat
open Go.RowKit Go.Maps

/-- A sector out of the first bytes of a text. -/
def Mt.sec1 (s : List UInt8) : List UInt8 := s.take 128 ++ List.replicate (128 - s.length) 0
theorem Mt.sec1_length (s : List UInt8) : (Mt.sec1 s).length = 128 := by unfold Mt.sec1; rw [List.length_append, List.length_take, List.length_replicate]; omega
theorem Mt.layL_snoc : ∀ (k : Nat) (s : List UInt8), Mt.layL (k + 1) s = Mt.layL k s ++ [Mt.sec1 (s.drop (128 * k))]
  | 0, s => by simp [Mt.layL, Mt.sec1]
  | k + 1, s => by
    rw [Mt.layL, Mt.layL_snoc k (s.drop 128), List.drop_drop, show 128 + 128 * k = 128 * (k + 1) by omega]
    rfl
theorem build_sec (w : World) : (Instr.build 72 #[]).run Tryz.prog w = .ok (secV Mt.blank) w := by kernel_rfl
theorem Mt.mix_set (A L : List (List UInt8)) (k : Nat) (x : List UInt8) (hA : A.length = k) (hk : k < L.length) : (A ++ L.drop k).set k x = A ++ [x] ++ L.drop (k + 1) := by
  rw [List.set_append_right _ _ (by omega), hA, Nat.sub_self, List.drop_eq_getElem_cons hk, List.set_cons_zero, List.append_assoc]
  rfl

section
variable {ops : Array Oper} {rest : List Oper} {o : Oper} {a : Act} {w : World} {Q : Exit → Act → World → Prop} {B bl bm : Nat} {d : Mt.Dk}
/-- The first bytes of a text are copied into a sector of noughts. -/
theorem IsDisk.copy (h : IsDisk w B bl bm d) (i : Nat) (hi : i < d.lasts.length) (hz : d.lasts[i] = Mt.blank) (s : ByteArray) (ty : TypeId) :
    (Builtin.copy_ #[73, 9] ty #[.slice (some ⟨bl, i * 128, none⟩) 128 128, .string s]).run Tryz.prog w = .ok (goInt (Nat.min s.size 128)) (w.setRow bl (flat (d.lasts.set i (Mt.sec1 s.data.toList)))) := by
  have hf := flat_size d.lasts h.ok.lasts
  have hl : s.data.toList.length = s.size := rfl
  obtain ⟨n, hn⟩ : ∃ n, Nat.min s.size 128 = n := ⟨_, rfl⟩
  have hn1 : n ≤ 128 := by rw [← hn]; exact Nat.min_le_right _ _
  have hn2 : n ≤ s.size := by rw [← hn]; exact Nat.min_le_left _ _
  have hr := run_copy_str (P := Tryz.prog) w 73 9 ty 5 bl (i * 128) 128 128 n s (flat d.lasts) 72 Tryz.underlying73 Tryz.szU8 h.secs hn (by rw [hf]; omega)
  have hp := flat_put d.lasts h.ok.lasts i n hi (s.data.toList.take n) (by rw [List.length_take]; omega) hn1
  rw [Nat.mul_comm 128 i] at hp
  rw [hn, hr, hp, hz]
  have e : s.data.toList.take n ++ Mt.blank.drop n = Mt.sec1 s.data.toList := by
    unfold Mt.sec1 Mt.blank
    rw [List.drop_replicate]
    rcases Nat.le_total s.size 128 with h1 | h1
    · have : n = s.size := by rw [← hn]; exact Nat.min_eq_left h1
      subst this
      rw [List.take_of_length_le (by omega), List.take_of_length_le (by omega), hl]
    · have : n = 128 := by rw [← hn]; exact Nat.min_eq_right h1
      subst this
      rw [hl, show 128 - s.size = 128 - 128 by omega]
  rw [e]

theorem lay_nil (s : ByteArray) (w : World) : Calls Tryz.prog 9 #[.pointer none, .string s] w fun e w' => e = .returned (.tuple #[]) ∧ w = w' := by
  go_enter Tryz.func9, Tryz.ntmps9
  go_wp2
  refine bodyPost_ret (results_none rfl _ _ _) rfl ?_
  exact ⟨rfl, rfl⟩

set_option maxHeartbeats 1000000 in
set_option maxRecDepth 100000 in
theorem lay_any (h : IsDisk w B bl bm d) (s : ByteArray) : Calls Tryz.prog 9 #[.pointer (some ⟨B, 0, none⟩), .string s] w fun e w' => e = .returned (.tuple #[]) ∧ IsDisk w' B bl bm (d.lay s.data.toList) ∧ OnlyS [B, bl, bm] w w' := by
  have HD := Lib.hid h
  have h0 := h.c0
  have hn8 := h.ok.most
  clear h
  obtain ⟨n, hn⟩ : ∃ n, d.lasts.length = n := ⟨_, rfl⟩
  have HN := Lib.hid hn
  rw [hn] at h0 hn8
  clear hn
  have HZZ := Lib.hid (show Value.agg Tryz.zeroCells72 = secV Mt.blank by kernel_rfl)
  go_enter Tryz.func9, Tryz.ntmps9
  go_wp2_with fail
  go_loopw [1, 12] (fun v i wr => ∃ (k : Nat) (S : ByteArray), k ≤ n ∧ i = .int .i64 k ∧ v = .string S ∧ Hid (S.data.toList = s.data.toList.drop (128 * k)) ∧ Hid (IsDisk wr B bl bm { d with lasts := Mt.layL k s.data.toList ++ d.lasts.drop k }) ∧ Hid (OnlyS [B, bl, bm] w wr))
    (fun _ i _ => n - (intOf i).toNat)
  case atStart => exact ⟨0, s, by omega, rfl, rfl, Lib.hid (by simp), by simpa [Mt.layL] using HD, Lib.hid (OnlyS.refl _ _)⟩
  case round =>
    clear HD h0
    obtain ⟨k, S, hk, rfl, rfl, HS, HDK, HOK⟩ := hrel
    by_cases hlt : k < n
    · have hki : (k : Int) < (n : Int) := by omega
      have hLL : (Mt.layL k s.data.toList ++ d.lasts.drop k).length = n := by rw [List.length_append, Mt.layL_length, List.length_drop, HN.out]; omega
      have h0 := HDK.out.c0
      dsimp only at h0
      rw [hLL] at h0
      have HLL := Lib.hid hLL
      have HPT := Lib.hid (HDK.out.put k (by show k < (Mt.layL k s.data.toList ++ d.lasts.drop k).length; omega) Mt.blank Mt.blank_length)
      clear hLL
      have HD2 := Lib.hid HPT.out.2
      have HO2 := Lib.hid (HOK.out.setRow (g := bl) (by simp) (flat ((Mt.layL k s.data.toList ++ d.lasts.drop k).set k Mt.blank)))
      have hst := HPT.out.1
      clear HPT
      have HST := Lib.hid hst
      clear hst
      have h02 := HD2.out.c0
      dsimp only at h02 HD2 HO2
      rw [List.length_set, HLL.out] at h02
      have HCP := Lib.hid (fun ty => HD2.out.copy k (by show k < ((Mt.layL k s.data.toList ++ d.lasts.drop k).set k Mt.blank).length; rw [List.length_set, HLL.out]; exact hlt) (by simp) S ty)
      have HN4 := Lib.hid (HD2.out.setSecs (((Mt.layL k s.data.toList ++ d.lasts.drop k).set k Mt.blank).set k (Mt.sec1 S.data.toList)) (HD2.out.ok.putSec k _ (Mt.sec1_length _)) (by simp))
      have HO4 := Lib.hid (HO2.out.setRow (g := bl) (by simp) (flat (((Mt.layL k s.data.toList ++ d.lasts.drop k).set k Mt.blank).set k (Mt.sec1 S.data.toList))))
      have HEQ : Hid (((Mt.layL k s.data.toList ++ d.lasts.drop k).set k Mt.blank).set k (Mt.sec1 S.data.toList) = Mt.layL (k + 1) s.data.toList ++ d.lasts.drop (k + 1)) := Lib.hid (by
        rw [List.set_set, Mt.mix_set _ _ k _ (Mt.layL_length _ _) (by rw [HN.out]; exact hlt), HS.out, Mt.layL_snoc])
      dsimp only at HCP HN4 HO4
      rw [HEQ.out] at HCP HN4 HO4
      obtain ⟨m, hm⟩ : ∃ m, Nat.min S.size 128 = m := ⟨_, rfl⟩
      have hm1 : m ≤ S.size := by rw [← hm]; exact Nat.min_le_left _ _
      have hm2 : (m : Int) ≤ (S.size : Int) := by omega
      have HS2 : Hid ((S.extract m S.size).data.toList = s.data.toList.drop (128 * (k + 1))) := Lib.hid (by
        rw [Mt.extract_list, HS.out, List.drop_drop]
        have hl : S.size = s.data.toList.length - 128 * k := by
          have h := congrArg List.length HS.out
          rw [List.length_drop] at h
          exact h
        rcases Nat.le_total S.size 128 with h1 | h1
        · have e : m = S.size := by rw [← hm]; exact Nat.min_eq_left h1
          rw [List.drop_of_length_le (by omega), List.drop_of_length_le (by omega)]
        · have e : m = 128 := by rw [← hm]; exact Nat.min_eq_right h1
          rw [e]; congr 1)
      rw [hm] at HCP
      clear hm
      generalize (wr.setRow bl (flat ((Mt.layL k s.data.toList ++ d.lasts.drop k).set k Mt.blank))) = w3 at *
      go_wp2_with (first | (refine wpList_store_run rfl 72 _ _ rfl _ (secV Mt.blank) rfl HZZ.out w3 HST.out ?_) | (refine wpList_copy_run _ rfl _ _ 73 9 rfl _ _ rfl rfl HCP.out ?_))
      go_roundw
      case rel => exact ⟨k + 1, _, by omega, by go_num, rfl, HS2, HN4, HO4⟩
      case measure => simp [intOf]; omega
    · obtain rfl : k = n := by omega
      have HN4 : Hid (IsDisk wr B bl bm { d with lasts := Mt.layL d.lasts.length s.data.toList }) := Lib.hid (by
        have h := HDK.out
        rw [← HN.out, List.drop_length, List.append_nil] at h
        exact h)
      have hc1 := HDK.out.c1
      obtain ⟨u, hu, hdu, hou⟩ := HN4.out.clear 0
      have hu' : ∀ ty, (Builtin.clear_ #[62] ty #[.map (some bm)]).run Tryz.prog wr = .ok (.tuple #[]) u := fun ty => hu
      have HU := Lib.hid hu'
      have HDU := Lib.hid hdu
      have HOU := Lib.hid (HOK.out.trans hou)
      clear hu hu' hdu hou HDK HN4 HOK
      go_wp2_with (refine wpList_clear_run rfl _ rfl _ rfl u HU.out ?_)
      refine bodyPost_end (results_none rfl _ _ _) rfl ?_
      refine ⟨rfl, ?_, HOU.out⟩
      have h := HDU.out
      rw [Mt.layL_length] at h
      exact h

theorem image_nil (w : World) : Calls Tryz.prog 14 #[.pointer none] w fun e w' => e = .returned (.string ByteArray.empty) ∧ w = w' := by
  go_enter Tryz.func14, Tryz.ntmps14
  go_wp2
  go_ret
  exact ⟨rfl, rfl⟩

theorem Mt.flatten_take (L : List (List UInt8)) (k : Nat) (hk : k < L.length) : (L.take (k + 1)).flatten = (L.take k).flatten ++ L[k] := by
  rw [List.take_succ_eq_append_getElem hk, List.flatten_append, List.flatten_cons, List.flatten_nil, List.append_nil]
theorem Mt.flatten_len (L : List (List UInt8)) (k : Nat) (hk : k ≤ L.length) (h : ∀ i (h : i < L.length), (L[i]).length = 128) : (L.take k).flatten.length = k * 128 := by
  have hc : (Mt.cs (L.take k).flatten).length = k * 128 := by
    have := flat_size (L.take k) (fun i hi => by
      rw [List.getElem_take]; exact h i (by rw [List.length_take] at hi; omega))
    unfold flat at this
    rw [List.size_toArray, List.length_take, Nat.min_eq_left hk] at this
    omega
  rwa [Mt.cs_length] at hc

set_option maxHeartbeats 1000000 in
set_option maxRecDepth 100000 in
theorem image_any (h : IsDisk w B bl bm d) : Calls Tryz.prog 14 #[.pointer (some ⟨B, 0, none⟩)] w fun e w' => e = .returned (.string (Mt.str d.image)) ∧ Below w.heap.size w w' := by
  obtain ⟨i0, hi, hz0, hz1, hz2⟩ := info_parts Tryz.infoU8
  have HD := Lib.hid h
  have h0 := h.c0
  have hlt := h.ltB
  have hn8 := h.ok.most
  clear h
  obtain ⟨n, hn⟩ : ∃ n, d.lasts.length = n := ⟨_, rfl⟩
  have HN := Lib.hid hn
  rw [hn] at h0 hn8
  clear hn
  have HDC : Hid (∀ w1, w.grownBy w1 none → w1.cell? ⟨B, 0, none⟩ = some (.slice (some ⟨bl, 0, none⟩) n n)) := Lib.hid (fun w1 hg => by
    have hb : Below w.heap.size w w1 := (Below.refl w.heap.size w).grown hg (Nat.le_refl _) (fun k hk => by cases hk)
    rw [hb.cell (p := ⟨B, 0, none⟩) hlt]; exact h0)
  go_enter Tryz.func14, Tryz.ntmps14
  go_wp2_with (refine wpList_make_own _ rfl _ _ 73 rfl w.heap.size 5 i0 (.int .u8 0) 1 Tryz.underlying73 hi hz0 hz1 .i64 .i64 _ (n * 128) rfl rfl (by omega) (by rw [hz2]; omega) (by unfold maxLen; omega) (Nat.le_refl _) ?_; intro w1 hown1 hgrow1; have h01 := HDC.out w1 hgrow1)
  have HO1 := Lib.hid hown1
  have HB1 := Lib.hid ((Below.refl w.heap.size w).grown hgrow1 (Nat.le_refl _) (fun k hk => by cases hk))
  have HD1 := Lib.hid (HD.out.below HB1.out)
  have HLT := Lib.hid (show B < w.heap.size ∧ bl < w.heap.size ∧ bm < w.heap.size from ⟨hlt, HD.out.ltL, HD.out.ltM⟩)
  clear hown1 hgrow1 HD h0 h01 HDC
  go_loopw [3, 19] (fun v i wr => ∃ k : Nat, k ≤ n ∧ i = .int .i64 k ∧ v = .slice (some ⟨w.heap.size, 0, none⟩) (k * 128) (n * 128) ∧ Hid (wr.ownsRow w.heap.size 5 1 (.slice (some ⟨w.heap.size, 0, none⟩) (k * 128) (n * 128)) (k * 128) (Mt.cs (d.lasts.take k).flatten)) ∧ Hid (Below w.heap.size w wr) ∧ Hid (IsDisk wr B bl bm d))
    (fun _ i _ => n - (intOf i).toNat)
  case atStart => exact ⟨0, by omega, rfl, by simp, by simpa [Mt.cs] using HO1, HB1, HD1⟩
  case round =>
    clear HO1 HB1 HD1
    obtain ⟨k, hk, rfl, rfl, HO, HB, HDK⟩ := hrel
    by_cases hlt2 : k < n
    · have hki : (k : Int) < (n : Int) := by omega
      have h0 := HDK.out.c0
      rw [HN.out] at h0
      have hkl : k < d.lasts.length := by rw [HN.out]; exact hlt2
      have HLS := Lib.hid (HDK.out.ok.lasts k hkl)
      have HCELL := Lib.hid (show ∀ (j : Nat) u, (Mt.cs (d.lasts[k]))[j]? = some u → wr.cell? ((⟨bl, k * 128, none⟩ : Addr).add j) = some u from fun j u hu => by
        obtain ⟨hj, rfl⟩ := Mt.cs_getD _ j u hu
        rw [add_off, cell_of_row _ _ _ _ _ _ HDK.out.secs, Nat.mul_comm k 128]
        exact flat_get d.lasts HDK.out.ok.lasts k j hkl (by rw [← HLS.out]; exact hj))
      have HFT := Lib.hid (Mt.flatten_take d.lasts k hkl)
      go_wp2_with (refine wpList_append_fits _ rfl _ _ 73 rfl w.heap.size 5 i0 1 Tryz.underlying73 hi hz1 w.heap.size (k * 128) (n * 128) _ rfl HO.out ⟨bl, k * 128, none⟩ 128 128 (Mt.cs (d.lasts[k])) rfl (by rw [Mt.cs_length, HLS.out]) HCELL.out (Mt.cs_one _) (by omega) ?_; intro w3 hown3 hgrow3)
      have e1 : k * 128 + 128 = (k + 1) * 128 := by omega
      rw [e1, ← Mt.cs_append, ← HFT.out] at hown3
      have HO3 := Lib.hid hown3
      have HB3 := Lib.hid (HB.out.grown hgrow3 HB.out.size (fun j hj => by cases hj; exact Nat.le_refl _))
      have HD3 := Lib.hid (HDK.out.kept (u := w3) (hgrow3.block _ HDK.out.ltB (fun e => by cases e; exact Nat.lt_irrefl _ HLT.out.1)) (hgrow3.block _ HDK.out.ltL (fun e => by cases e; exact Nat.lt_irrefl _ HLT.out.2.1)) (hgrow3.block _ HDK.out.ltM (fun e => by cases e; exact Nat.lt_irrefl _ HLT.out.2.2)))
      clear hown3 hgrow3 HO HB HDK HCELL HFT h0
      go_roundw
      case rel => exact ⟨k + 1, by omega, by go_num, by rw [e1], HO3, HB3, HD3⟩
      case measure => simp [intOf]; omega
    · obtain rfl : k = n := by omega
      have HCV : Hid ((convert 73 9 (.slice (some ⟨w.heap.size, 0, none⟩) (k * 128) (k * 128))).run Tryz.prog wr = .ok (.string (Mt.str d.image)) wr) := Lib.hid (by
        have hl : d.image.length = k * 128 := by rw [Mt.Dk.image_length HDK.out.ok, HN.out]; omega
        have h := run_convert_bytes_back (P := Tryz.prog) wr 73 9 5 ⟨w.heap.size, 0, none⟩ (k * 128) d.image Tryz.underlying73 Tryz.underlying5 Tryz.underlying9 (fun j hj => by
          rw [add_off, Nat.zero_add, HO.out.cellAt j (by omega)]
          have e : (d.lasts.take k).flatten = d.image := by rw [← HN.out, List.take_length]; rfl
          rw [e]
          simp [Mt.cs, List.getElem?_eq_getElem hj])
        rw [hl] at h
        exact h)
      have hcv := HCV.out
      clear HCV HO
      go_wp2_with fail
      go_ret
      exact ⟨rfl, HB.out⟩
end
end Go.Proofs.YtnioagojiipjlaaGreat

/-
  What sector and Blank come to; the chapter's examples of disks: they are met.
-/
namespace Go.Proofs.YtnioagojiipjlaaGreat
open Go.RowKit Go.Maps

theorem conv_zero (w : World) (n : Nat) (hn : n ≤ 1000000) : (convert 73 9 (.slice (some ⟨w.heap.size, 0, none⟩) n n)).run Tryz.prog (w.alloc (.cells (Array.replicate n (.int .u8 0)) 5)) = .ok (.string (Mt.str (List.replicate n 0))) (w.alloc (.cells (Array.replicate n (.int .u8 0)) 5)) := by
  have h := run_convert_bytes_back (P := Tryz.prog) (w.alloc (.cells (Array.replicate n (.int .u8 0)) 5)) 73 9 5 ⟨w.heap.size, 0, none⟩ n (List.replicate n 0) Tryz.underlying73 Tryz.underlying5 Tryz.underlying9 (fun j hj => by
    rw [List.length_replicate] at hj
    rw [add_off, Nat.zero_add, cell_of_row _ _ _ _ _ _ (heap_alloc_new _ _)]
    simp [hj])
  rw [List.length_replicate] at h
  exact h
theorem make_zero (w : World) (n : Nat) (hn : n ≤ 1000000) : (Instr.makeSlice 73 (.int .i64 (n : Int)) (.int .i64 (n : Int))).run Tryz.prog w = .ok (.slice (some ⟨w.heap.size, 0, none⟩) n n) (w.alloc (.cells (Array.replicate n (.int .u8 0)) 5)) := by
  obtain ⟨i, hi, hz, hs, hb⟩ := info_parts Tryz.infoU8
  have h := run_make (P := Tryz.prog) w 73 5 i _ Tryz.underlying73 hi hz .i64 .i64 (n : Int) (n : Int) (by omega) (Int.le_refl _) (by rw [hb]; omega) (by omega)
  rw [Int.toNat_natCast, hs, Nat.mul_one] at h
  have e : madeCells (Value.int .u8 0).cells n = Array.replicate n (.int .u8 0) := made_all _ _ _ 1 rfl (by decide) (fun j hj => by
    obtain rfl : j = 0 := by omega
    rfl)
  rw [e] at h
  exact h
set_option maxRecDepth 100000 in
theorem blank_any (n : Nat) (hn : n ≤ 1000000) (w : World) : Calls Tryz.prog 32 #[.int .i64 (n : Int)] w fun e w' => e = .returned (.string (Mt.str (List.replicate n 0))) ∧ Below w.heap.size w w' := by
  have hm := fun u => make_zero u n hn
  have hc := conv_zero w n hn
  have HB := Lib.hid (fun o => (Below.refl w.heap.size w).alloc (Nat.le_refl _) o)
  obtain ⟨z, hz⟩ : ∃ z : Int, (n : Int) = z := ⟨_, rfl⟩
  rw [hz] at hm ⊢
  clear hz
  generalize Array.replicate n (Value.int .u8 0) = Z at *
  go_enter Tryz.func32, Tryz.ntmps32
  go_wp2
  go_ret
  exact ⟨rfl, HB.out _⟩

end Go.Proofs.YtnioagojiipjlaaGreat

/-
  The chapter's examples of disks: they are met.
-/
namespace Go.Proofs.YtnioagojiipjlaaGreat
open Go.RowKit Go.Maps

def Mt.sx : List UInt8 := Mt.sec1 [120, 120, 120, 120, 120, 120, 120]
def Mt.sx5 : List UInt8 := Mt.sec1 [120, 120, 120, 120, 120]
def Mt.sy : List UInt8 := Mt.sec1 [121]
def Mt.d0 : Mt.Dk := Mt.Dk.new 4
def Mt.d1 : Mt.Dk := (Mt.d0.write 1 Mt.sx).1
def Mt.d2 : Mt.Dk := (Mt.d1.write 3 Mt.sy).1
theorem Mt.w1 : (Mt.d0.write 1 Mt.sx).2 = 0 := by decide +kernel
theorem Mt.w2 : (Mt.d1.write 3 Mt.sy).2 = 0 := by decide +kernel
def Mt.ca : Mt.Dk := Mt.d2.crash 2 (-1) 0
def Mt.cb : Mt.Dk := Mt.d2.crash 0 0 5
theorem Mt.ra1 : Mt.ca.read 1 = (Mt.sec1 [], 0) := by decide +kernel
theorem Mt.ra3 : Mt.ca.read 3 = (Mt.sy, 0) := by decide +kernel
theorem Mt.rb1 : Mt.cb.read 1 = (Mt.sx5, 0) := by decide +kernel
theorem Mt.la : Mt.ca.lasts.length = 4 := by decide +kernel

theorem notIn3 {x a b c : Nat} (h1 : x ≠ a) (h2 : x ≠ b) (h3 : x ≠ c) : x ∉ [a, b, c] := by simp; exact ⟨h1, h2, h3⟩

/-- Two disks that lie apart. -/
structure Two (w : World) (A a1 a2 B b1 b2 : Nat) (x y : Mt.Dk) : Prop where
  one : IsDisk w A a1 a2 x
  two : IsDisk w B b1 b2 y
  apart : ∀ k ∈ [A, a1, a2], k ∉ [B, b1, b2]
theorem Two.first {w u : World} {A a1 a2 B b1 b2 : Nat} {x y x' : Mt.Dk} (h : Two w A a1 a2 B b1 b2 x y) (h1 : IsDisk u A a1 a2 x') (ho : OnlyS [A, a1, a2] w u) : Two u A a1 a2 B b1 b2 x' y :=
  ⟨h1, h.two.only ho (fun hm => h.apart _ hm (by simp)) (fun hm => h.apart _ hm (by simp)) (fun hm => h.apart _ hm (by simp)), h.apart⟩
theorem Two.second {w u : World} {A a1 a2 B b1 b2 : Nat} {x y y' : Mt.Dk} (h : Two w A a1 a2 B b1 b2 x y) (h1 : IsDisk u B b1 b2 y') (ho : OnlyS [B, b1, b2] w u) : Two u A a1 a2 B b1 b2 x y' :=
  ⟨h.one.only ho (h.apart _ (by simp)) (h.apart _ (by simp)) (h.apart _ (by simp)), h1, h.apart⟩
theorem Two.below {w u : World} {A a1 a2 B b1 b2 : Nat} {x y : Mt.Dk} (h : Two w A a1 a2 B b1 b2 x y) (hb : Below w.heap.size w u) : Two u A a1 a2 B b1 b2 x y := ⟨h.one.below hb, h.two.below hb, h.apart⟩
theorem OnlyS.up {S : List Nat} {D : Nat} {a b c : World} (h1 : Below D a b) (h2 : OnlyS S b c) (hD : D ≤ a.heap.size) (hS : ∀ k ∈ S, D ≤ k) : Below D a c :=
  h1.trans (h2.toBelow hS (Nat.le_trans hD h1.size))

/-- The states of the two disks behind so many rounds. -/
def Mt.sA (k : Nat) : Mt.Dk := if 1 ≤ k then Mt.d2 else Mt.d0
def Mt.sB (k : Nat) : Mt.Dk := if 2 ≤ k then Mt.d2 else Mt.d0

theorem write1 {u : World} {B bl bm : Nat} (h : IsDisk u B bl bm Mt.d0) : Calls Tryz.prog 78 #[.pointer (some ⟨B, 0, none⟩), .int .i64 1, .string (Mt.str Mt.sx)] u fun e w' => e = .returned (.int .i64 0) ∧ IsDisk w' B bl bm Mt.d1 ∧ OnlyS [B, bl, bm] u w' :=
  (write_any h 1 (Mt.str Mt.sx)).mono fun e w' hh => ⟨by rw [hh.1, Mt.str_data, Mt.w1], hh.2⟩
theorem write3 {u : World} {B bl bm : Nat} (h : IsDisk u B bl bm Mt.d1) : Calls Tryz.prog 78 #[.pointer (some ⟨B, 0, none⟩), .int .i64 3, .string (Mt.str Mt.sy)] u fun e w' => e = .returned (.int .i64 0) ∧ IsDisk w' B bl bm Mt.d2 ∧ OnlyS [B, bl, bm] u w' :=
  (write_any h 3 (Mt.str Mt.sy)).mono fun e w' hh => ⟨by rw [hh.1, Mt.str_data, Mt.w2], hh.2⟩
theorem read_of {u : World} {B bl bm : Nat} {d : Mt.Dk} {i : Int} {L : List UInt8} (hr : d.read i = (L, 0)) (h : IsDisk u B bl bm d) : Calls Tryz.prog 62 #[.pointer (some ⟨B, 0, none⟩), .int .i64 i] u fun e w' => e = .returned (.tuple #[.string (Mt.str L), .int .i64 0]) ∧ Below u.heap.size u w' :=
  (read_any h i).mono fun e w' hh => ⟨by rw [hh.1, hr], hh.2⟩
theorem crashA {u : World} {B bl bm : Nat} (h : IsDisk u B bl bm Mt.d2) : Calls Tryz.prog 20 #[.pointer (some ⟨B, 0, none⟩), .agg #[.int .u64 2, .int .i64 (-1), .int .i64 0]] u fun e w' => e = .returned (.tuple #[]) ∧ IsDisk w' B bl bm Mt.ca ∧ OnlyS [B, bl, bm] u w' :=
  crash_any h 2 (-1) 0 (by decide) (by decide) (by decide)
theorem crashB {u : World} {B bl bm : Nat} (h : IsDisk u B bl bm Mt.d2) : Calls Tryz.prog 20 #[.pointer (some ⟨B, 0, none⟩), .agg #[.int .u64 0, .int .i64 0, .int .i64 5]] u fun e w' => e = .returned (.tuple #[]) ∧ IsDisk w' B bl bm Mt.cb ∧ OnlyS [B, bl, bm] u w' :=
  crash_any h 0 0 5 (by decide) (by decide) (by decide)
end Go.Proofs.YtnioagojiipjlaaGreat

/-
  What is written to the first sectors of a disk, flushed, written again, and lost: plain facts.
-/
namespace Go.Proofs.YtnioagojiipjlaaGreat.Mt

/-- The first sectors wait. -/
def pre (n : Nat) (X : List (List UInt8)) : List (Option (List UInt8)) := X.map some ++ List.replicate (n - X.length) none
theorem pre_length (n : Nat) (X : List (List UInt8)) (h : X.length ≤ n) : (pre n X).length = n := by
  unfold pre; rw [List.length_append, List.length_map, List.length_replicate]; omega
theorem pre_nil (n : Nat) : pre n [] = noWaits n := by simp [pre, noWaits]
theorem pre_snoc (n : Nat) (X : List (List UInt8)) (b : List UInt8) (h : X.length < n) : (pre n X).set X.length (some b) = pre n (X ++ [b]) := by
  unfold pre
  have e : n - X.length = (n - (X ++ [b]).length) + 1 := by rw [List.length_append]; simp; omega
  rw [e, List.replicate_succ, List.set_append_right _ _ (by simp), List.length_map, Nat.sub_self, List.set_cons_zero]
  simp
theorem pre_get (n : Nat) (X : List (List UInt8)) (i : Nat) (b : List UInt8) : (pre n X)[i]? = some (some b) ↔ X[i]? = some b := by
  unfold pre
  rcases Nat.lt_or_ge i X.length with h | h
  · rw [List.getElem?_append_left (by simpa using h), List.getElem?_map, List.getElem?_eq_getElem h]; simp
  · rw [List.getElem?_append_right (by simpa using h), List.getElem?_eq_none h, List.getElem?_replicate]
    constructor
    · intro h2; split at h2 <;> simp at h2
    · intro h2; cases h2
theorem pre_keys (n : Nat) (X : List (List UInt8)) (h : X.length ≤ n) : wkeys (pre n X) = List.range X.length := by
  refine List.Perm.eq_of_pairwise (le := fun a b => a < b) (fun a b _ _ h1 h2 => by omega) (wkeys_sorted _) List.pairwise_lt_range ((List.perm_ext_iff_of_nodup (wkeys_nodup _) List.nodup_range).2 fun i => ?_)
  rw [mem_wkeys, List.mem_range]
  constructor
  · rintro ⟨b, hb⟩
    have h2 := (pre_get n X i b).1 hb
    rcases Nat.lt_or_ge i X.length with h3 | h3
    · exact h3
    · rw [List.getElem?_eq_none h3] at h2; cases h2
  · intro h2
    exact ⟨X[i], (pre_get n X i _).2 (List.getElem?_eq_getElem h2)⟩
theorem over_pre (L X : List (List UInt8)) (h : X.length ≤ L.length) : over L (pre L.length X) = X ++ L.drop X.length := by
  apply List.ext_getElem
  · rw [over_length _ _ (pre_length _ _ h), List.length_append, List.length_drop]; omega
  · intro i h1 h2
    rw [over_length _ _ (pre_length _ _ h)] at h1
    simp only [over, List.getElem_zipWith]
    rcases Nat.lt_or_ge i X.length with h3 | h3
    · have e : (pre L.length X)[i]'(by rw [pre_length _ _ h]; exact h1) = some X[i] := by simp [pre, List.getElem_append_left, h3]
      rw [e, List.getElem_append_left h3]; rfl
    · have e : (pre L.length X)[i]'(by rw [pre_length _ _ h]; exact h1) = none := by
        unfold pre
        rw [List.getElem_append_right (by simpa using h3)]; simp
      rw [e, List.getElem_append_right h3, List.getElem_drop]
      show L[i] = _
      congr 1; omega
theorem range_pre (keep : Nat) (torn at' : Int) (n : Nat) (X L : List (List UInt8)) (hX : X.length ≤ n) (hL : L.length = n) : ∀ k, k ≤ X.length → ∀ i (hi : i < L.length),
    (loseK keep torn at' (pre n X) 0 (List.range k) L)[i]? = some (if h : i < k ∧ i < X.length then pick keep torn at' i L[i] (X[i]'h.2) else L[i])
  | 0, _, i, hi => by simp [loseK, hi]
  | k + 1, hk, i, hi => by
    have ih := range_pre keep torn at' n X L hX hL k (by omega)
    have hlen := loseK_length keep torn at' (pre n X) (List.range k) 0 L
    have hkn : k < L.length := by omega
    rw [List.range_succ, loseK_append, List.length_range, Nat.zero_add]
    show ((loseK keep torn at' (pre n X) 0 (List.range k) L).set k _)[i]? = _
    rw [List.getElem?_set]
    by_cases hik : k = i
    · subst hik
      have e1 : (loseK keep torn at' (pre n X) 0 (List.range k) L).getD k [] = L[k] := by
        rw [List.getD_eq_getElem?_getD, ih k hkn, dif_neg (by omega)]; rfl
      have e2 : ((pre n X).getD k none).getD [] = X[k] := by
        rw [List.getD_eq_getElem?_getD, (pre_get n X k X[k]).2 (List.getElem?_eq_getElem (by omega))]; rfl
      rw [if_pos rfl, if_pos (by rw [hlen]; exact hkn), e1, e2, dif_pos ⟨by omega, by omega⟩]
    · rw [if_neg hik, ih i hi]
      by_cases h : i < k ∧ i < X.length
      · rw [dif_pos h, dif_pos ⟨by omega, h.2⟩]
      · rw [dif_neg h, dif_neg (by omega)]
/-- What lasts behind a loss, sector by sector. -/
theorem lose_pre (keep : Nat) (torn at' : Int) (X L : List (List UInt8)) (hX : X.length ≤ L.length) (i : Nat) (hi : i < L.length) :
    ∃ b, (loseAll keep torn at' (pre L.length X) L)[i]? = some b ∧ (X.length ≤ i → b = L[i]) ∧ ∀ (h : i < X.length), b = L[i] ∨ b = X[i] ∨ (i : Int) = torn := by
  refine ⟨_, by unfold loseAll; rw [pre_keys _ _ hX]; exact range_pre keep torn at' L.length X L hX rfl X.length (Nat.le_refl _) i hi, fun h => by rw [dif_neg (by omega)], fun h => ?_⟩
  rw [dif_pos ⟨h, h⟩]
  unfold pick
  split
  · exact .inr (.inr (by assumption))
  · split
    · exact .inr (.inl rfl)
    · exact .inl rfl

/-- A text's first hundred bytes, as a sector. -/
def cut100 (s : ByteArray) : ByteArray := s.extract 0 (min s.size 100)
def secOf (s : ByteArray) : List UInt8 := sec1 (cut100 s).data.toList
theorem cut100_size (s : ByteArray) : (cut100 s).size ≤ 100 := by unfold cut100; rw [ByteArray.size_extract]; omega
theorem secOf_length (s : ByteArray) : (secOf s).length = 128 := sec1_length _

/-- A sector of an image. -/
theorem image_cut (L : List (List UInt8)) (h : ∀ j (h : j < L.length), (L[j]).length = 128) (i : Nat) (hi : i < L.length) : (str L.flatten).extract (i * 128) ((i + 1) * 128) = str L[i] := by
  have hb : ∀ a b : ByteArray, a.data.toList = b.data.toList → a = b := fun a b h => by
    cases a; cases b
    simp only at h
    congr 1
    exact Array.toList_inj.1 h
  apply hb
  rw [ByteArray.data_extract, Array.toList_extract, List.extract_eq_take_drop, str_data, str_data]
  have hs := Mt.flatten_split L i hi h
  rw [Nat.mul_comm i 128, hs.2, List.drop_eq_getElem_cons hi, List.flatten_cons, show (i + 1) * 128 - 128 * i = (L[i]).length by rw [h i hi]; omega]
  exact List.take_left' rfl

/-! ### the disk of twenty sectors -/
theorem count0 (d : Dk) (h : d.cut = 0) : d.count = (d, 0) := by unfold Dk.count; rw [if_pos h]
def e0 : Dk := Dk.new 20
def ew (L X : List (List UInt8)) : Dk := { e0 with lasts := L, waits := pre 20 X }
theorem ew0 : e0 = ew (List.replicate 20 blank) [] := by unfold ew; rw [pre_nil]; rfl
theorem ew_write (L X : List (List UInt8)) (hL : L.length = 20) (hX : X.length < 20) (b : List UInt8) (hb : b.length = 128) : (ew L X).write (X.length : Int) b = (ew L (X ++ [b]), 0) := by
  have ha : (ew L X).ask (X.length : Int) = 0 := by
    unfold Dk.ask
    rw [if_neg (by simp [ew, e0, Dk.new]), if_neg]
    simp only [ew]; omega
  unfold Dk.write
  rw [if_pos ha, if_pos hb, if_pos (show (X.length : Int) < ((ew L X).room : Int) by show (X.length : Int) < ((20 : Nat) : Int); omega), Int.toNat_natCast]
  refine (count0 _ rfl).trans ?_
  show (({ ew L X with waits := (pre 20 X).set X.length (some b) } : Dk), (0 : Int)) = _
  rw [pre_snoc 20 X b hX]
  rfl
theorem ew_flush (L X : List (List UInt8)) (hL : L.length = 20) (hX : X.length ≤ 20) : (ew L X).flush = (ew (X ++ L.drop X.length) [], 0) := by
  unfold Dk.flush
  rw [count0 _ (show (ew L X).cut = 0 from rfl), if_neg (by simp [ew, e0, Dk.new]), if_pos rfl]
  have h := over_pre L X (by omega)
  rw [hL] at h
  unfold Dk.flushed
  show (({ ew L X with lasts := over L (pre 20 X), waits := noWaits L.length } : Dk), (0 : Int)) = _
  rw [h, hL, ← pre_nil]
  rfl

end Go.Proofs.YtnioagojiipjlaaGreat.Mt

/-
  How the document's disk lies in memory: a block of ten cells, two rows of texts, a row of what was torn.
-/
namespace Go.Proofs.YtnioagojiipjlaaGreat
open Go.RowKit Go.Maps

theorem Tryz.infoTorn : (Tryz.prog.info? 98).map (fun i => (i.zero, i.size, i.bytes)) = some (some (.agg #[.string ByteArray.empty, .string ByteArray.empty, .string ByteArray.empty]), 3, 48) := by kernel_rfl
theorem Tryz.infoStr : (Tryz.prog.info? 9).map (fun i => (i.zero, i.size, i.bytes)) = some (some (.string ByteArray.empty), 1, 16) := by kernel_rfl

/-- Where the document's disk lies: its block, its two rows; what lies below the row of what was torn. -/
structure Rg where
  R : Nat
  bl : Nat
  bw : Nat
  D : Nat
  cl : Nat
  cw : Nat
  P : Nat → Prop

def wtxt : Option (List UInt8) → ByteArray
  | none => ByteArray.empty
  | some b => Mt.str b
def slc (n b c : Nat) : Value := .slice (if n = 0 then none else some ⟨b, 0, none⟩) n c
theorem slc_pos {n b c : Nat} (h : n ≠ 0) : slc n b c = .slice (some ⟨b, 0, none⟩) n c := by unfold slc; rw [if_neg h]
def rCells (g : Rg) (d : Mt.Dk) (lim : Bool) (most : Nat) (tv : Value) : Array Value :=
  #[slc d.lasts.length g.bl g.cl, slc d.lasts.length g.bw g.cw, .bool lim, .int .i64 (most : Int), .bool d.off, .int .i64 (d.cut : Int), .int .u64 (d.keep : Int), .int .i64 d.torn, .int .i64 d.at', tv]

/-- The row of a list of texts. -/
def txts (w : World) (b : Nat) (n : Nat) (f : Nat → ByteArray) : Prop := ∃ cs, w.heap[b]? = some (.cells cs 9 (0, 0)) ∧ ∀ i, i < n → cs[i]? = some (.string (f i))
def lastT (d : Mt.Dk) (i : Nat) : ByteArray := Mt.str (d.lasts.getD i [])
def waitT (d : Mt.Dk) (i : Nat) : ByteArray := wtxt (d.waits.getD i none)

structure RD (w : World) (g : Rg) (d : Mt.Dk) (lim : Bool) (most : Nat) (tv : Value) (tn : Nat) (tcs : List Value) : Prop where
  ok : d.Ok
  row : w.heap[g.R]? = some (.cells (rCells g d lim most tv) 67 (0, 0))
  lasts : d.lasts.length ≠ 0 → txts w g.bl d.lasts.length (lastT d)
  waits : d.lasts.length ≠ 0 → txts w g.bw d.lasts.length (waitT d)
  tears : w.ownsRow g.D 98 3 tv tn tcs
  ltR : g.R < g.D
  apart : d.lasts.length ≠ 0 → g.bl < g.D ∧ g.bw < g.D ∧ g.bl ≠ g.bw ∧ g.bl ≠ g.R ∧ g.bw ≠ g.R
  size : g.D ≤ w.heap.size
  room : d.room = if lim = true ∧ most < d.lasts.length then most else d.lasts.length
  most : most ≤ 9223372036854775807
  prot : ∀ k, tv.ownBlock = some k → ¬ g.P k
  ltP : ∀ k, g.P k → k < w.heap.size

theorem own_at {w u : World} {base : Nat} {e : TypeId} {size : Nat} {v : Value} {n : Nat} {xs : List Value} (h : w.ownsRow base e size v n xs) (hk : ∀ k, base ≤ k → k < w.heap.size → u.heap[k]? = w.heap[k]?) : u.ownsRow base e size v n xs := by
  refine ⟨h.1, ?_⟩
  rcases h.2 with h | ⟨g, cap, cur, h1, h2, h3, h4⟩
  · exact .inl h
  · exact .inr ⟨g, cap, cur, h1, h2, by rw [hk g h2 (lt_of_block h3)]; exact h3, h4⟩

/-- What a call of the document's disk leaves as it was. -/
structure Fr (g : Rg) (w w' : World) : Prop where
  os : w'.os = w.os
  tape : w'.tape = w.tape
  output : w'.output = w.output
  size : w.heap.size ≤ w'.heap.size
  block : ∀ k, (k < g.D ∨ g.P k) → k < w.heap.size → k ≠ g.R → k ≠ g.bl → k ≠ g.bw → w'.heap[k]? = w.heap[k]?
theorem Fr.refl (g : Rg) (w : World) : Fr g w w := ⟨rfl, rfl, rfl, Nat.le_refl _, fun _ _ _ _ _ _ => rfl⟩
theorem Fr.trans {g : Rg} {a b c : World} (h1 : Fr g a b) (h2 : Fr g b c) : Fr g a c :=
  ⟨h2.os.trans h1.os, h2.tape.trans h1.tape, h2.output.trans h1.output, Nat.le_trans h1.size h2.size, fun k z a b c d => (h2.block k z (Nat.lt_of_lt_of_le a h1.size) b c d).trans (h1.block k z a b c d)⟩
theorem Fr.drew {g : Rg} {a b : World} (h : Fr g a b) : Fr g a b.drew := ⟨h.os, h.tape, h.output, h.size, h.block⟩
theorem Fr.drewN {g : Rg} {a b : World} (n : Nat) (h : Fr g a b) : Fr g a (b.drewN n) := ⟨h.os, h.tape, h.output, h.size, h.block⟩
theorem Fr.setCell {g : Rg} {a b : World} (h : Fr g a b) {x i : Nat} (hx : x = g.R ∨ x = g.bl ∨ x = g.bw) (v : Value) : Fr g a (b.setCell ⟨x, i, none⟩ v) := by
  have hb : Below 0 b (b.setCell ⟨x, i, none⟩ v) := Below.setCell (Below.refl 0 b) (Nat.zero_le _) v
  exact ⟨hb.os.trans h.os, hb.tape.trans h.tape, hb.output.trans h.output, Nat.le_trans h.size hb.size, fun k h0 h1 h2 h3 h4 => by
    rw [heap_setCell_other _ _ _ _ (fun e => by rcases hx with rfl | rfl | rfl <;> simp_all)]; exact h.block k h0 h1 h2 h3 h4⟩
theorem Fr.below {g : Rg} {a b c : World} (h : Fr g a b) (h2 : Below b.heap.size b c) : Fr g a c :=
  h.trans ⟨h2.os, h2.tape, h2.output, h2.size, fun k _ hk _ _ _ => h2.block k hk⟩
theorem Fr.alloc {g : Rg} {a b : World} (h : Fr g a b) (_hs : g.D ≤ b.heap.size) (o : Obj) : Fr g a (b.alloc o) := h.below ((Below.refl _ b).alloc (Nat.le_refl _) o)
theorem Fr.grown {g : Rg} {a b c : World} {row : Option Nat} (h : Fr g a b) (hr : ∀ k, row = some k → g.D ≤ k) (hp : ∀ k, row = some k → ¬ g.P k) (h2 : b.grownBy c row) : Fr g a c :=
  h.trans ⟨h2.os, h2.tape, h2.output, h2.size, fun k hk h3 _ _ _ => h2.block k h3 (fun e => by
    rcases hk with hk | hk
    · have := hr k e.symm; omega
    · exact hp k e.symm hk)⟩

section
variable {w u : World} {g : Rg} {d : Mt.Dk} {lim : Bool} {most : Nat} {tv : Value} {tn : Nat} {tcs : List Value}

theorem RD.kept (h : RD w g d lim most tv tn tcs) (hs : w.heap.size ≤ u.heap.size) (hk : ∀ k, k < w.heap.size → (k = g.R ∨ (d.lasts.length ≠ 0 ∧ (k = g.bl ∨ k = g.bw)) ∨ g.D ≤ k) → u.heap[k]? = w.heap[k]?) : RD u g d lim most tv tn tcs := by
  refine ⟨h.ok, ?_, fun hn => ?_, fun hn => ?_, own_at h.tears fun k h1 h2 => hk k h2 (.inr (.inr h1)), h.ltR, h.apart, Nat.le_trans h.size hs, h.room, h.most, h.prot, fun b hb => Nat.lt_of_lt_of_le (h.ltP b hb) hs⟩
  · rw [hk _ (lt_of_block h.row) (.inl rfl)]; exact h.row
  · obtain ⟨cs, h1, h2⟩ := h.lasts hn
    exact ⟨cs, by rw [hk _ (lt_of_block h1) (.inr (.inl ⟨hn, .inl rfl⟩))]; exact h1, h2⟩
  · obtain ⟨cs, h1, h2⟩ := h.waits hn
    exact ⟨cs, by rw [hk _ (lt_of_block h1) (.inr (.inl ⟨hn, .inr rfl⟩))]; exact h1, h2⟩
theorem RD.below (h : RD w g d lim most tv tn tcs) (hb : Below w.heap.size w u) : RD u g d lim most tv tn tcs := h.kept hb.size fun k hk _ => hb.block k hk
theorem RD.drew (h : RD w g d lim most tv tn tcs) : RD w.drew g d lim most tv tn tcs := h.kept (Nat.le_refl _) fun _ _ _ => rfl
theorem RD.drewN (n : Nat) (h : RD w g d lim most tv tn tcs) : RD (w.drewN n) g d lim most tv tn tcs := h.kept (Nat.le_refl _) fun _ _ _ => rfl
theorem RD.alloc (h : RD w g d lim most tv tn tcs) (o : Obj) : RD (w.alloc o) g d lim most tv tn tcs := h.below ((Below.refl _ _).alloc (Nat.le_refl _) o)

theorem RD.c0 (h : RD w g d lim most tv tn tcs) : w.cell? ⟨g.R, 0, none⟩ = some (slc d.lasts.length g.bl g.cl) := by rw [cell_of_row _ _ _ _ _ _ h.row]; rfl
theorem RD.c1 (h : RD w g d lim most tv tn tcs) : w.cell? ⟨g.R, 1, none⟩ = some (slc d.lasts.length g.bw g.cw) := by rw [cell_of_row _ _ _ _ _ _ h.row]; rfl
theorem RD.c2 (h : RD w g d lim most tv tn tcs) : w.cell? ⟨g.R, 2, none⟩ = some (.bool lim) := by rw [cell_of_row _ _ _ _ _ _ h.row]; rfl
theorem RD.c3 (h : RD w g d lim most tv tn tcs) : w.cell? ⟨g.R, 3, none⟩ = some (.int .i64 (most : Int)) := by rw [cell_of_row _ _ _ _ _ _ h.row]; rfl
theorem RD.c4 (h : RD w g d lim most tv tn tcs) : w.cell? ⟨g.R, 4, none⟩ = some (.bool d.off) := by rw [cell_of_row _ _ _ _ _ _ h.row]; rfl
theorem RD.c5 (h : RD w g d lim most tv tn tcs) : w.cell? ⟨g.R, 5, none⟩ = some (.int .i64 (d.cut : Int)) := by rw [cell_of_row _ _ _ _ _ _ h.row]; rfl
theorem RD.c6 (h : RD w g d lim most tv tn tcs) : w.cell? ⟨g.R, 6, none⟩ = some (.int .u64 (d.keep : Int)) := by rw [cell_of_row _ _ _ _ _ _ h.row]; rfl
theorem RD.c7 (h : RD w g d lim most tv tn tcs) : w.cell? ⟨g.R, 7, none⟩ = some (.int .i64 d.torn) := by rw [cell_of_row _ _ _ _ _ _ h.row]; rfl
theorem RD.c8 (h : RD w g d lim most tv tn tcs) : w.cell? ⟨g.R, 8, none⟩ = some (.int .i64 d.at') := by rw [cell_of_row _ _ _ _ _ _ h.row]; rfl
theorem RD.c9 (h : RD w g d lim most tv tn tcs) : w.cell? ⟨g.R, 9, none⟩ = some tv := by rw [cell_of_row _ _ _ _ _ _ h.row]; rfl
theorem RD.f (h : RD w g d lim most tv tn tcs) (i : Nat) : w.frozen? ⟨g.R, i, none⟩ = false := frozen_of_row _ _ _ _ _ h.row
theorem RD.cL (h : RD w g d lim most tv tn tcs) (i : Nat) (hi : i < d.lasts.length) : w.cell? ⟨g.bl, i, none⟩ = some (.string (lastT d i)) := by
  obtain ⟨cs, h1, h2⟩ := h.lasts (by omega)
  rw [cell_of_row _ _ _ _ _ _ h1]; exact h2 i hi
theorem RD.cW (h : RD w g d lim most tv tn tcs) (i : Nat) (hi : i < d.lasts.length) : w.cell? ⟨g.bw, i, none⟩ = some (.string (waitT d i)) := by
  obtain ⟨cs, h1, h2⟩ := h.waits (by omega)
  rw [cell_of_row _ _ _ _ _ _ h1]; exact h2 i hi
theorem RD.fL (h : RD w g d lim most tv tn tcs) (i : Nat) (hn : d.lasts.length ≠ 0) : w.frozen? ⟨g.bl, i, none⟩ = false := by
  obtain ⟨cs, h1, _⟩ := h.lasts hn
  exact frozen_of_row _ _ _ _ _ h1
theorem RD.fW (h : RD w g d lim most tv tn tcs) (i : Nat) (hn : d.lasts.length ≠ 0) : w.frozen? ⟨g.bw, i, none⟩ = false := by
  obtain ⟨cs, h1, _⟩ := h.waits hn
  exact frozen_of_row _ _ _ _ _ h1

theorem setCell_size (w : World) (p : Addr) (v : Value) : w.heap.size ≤ (w.setCell p v).heap.size := (Below.setCell (Below.refl 0 w) (Nat.zero_le _) v).size
theorem txts_other {b n x i : Nat} {f : Nat → ByteArray} (h : txts w b n f) (hx : b ≠ x) (v : Value) : txts (w.setCell ⟨x, i, none⟩ v) b n f := by
  obtain ⟨cs, h1, h2⟩ := h
  exact ⟨cs, by rw [heap_setCell_other _ _ _ _ hx]; exact h1, h2⟩
theorem txts_same {b n i : Nat} {f : Nat → ByteArray} (h : txts w b n f) (hi : i < n) (s : ByteArray) : txts (w.setCell ⟨b, i, none⟩ (.string s)) b n (fun j => if j = i then s else f j) := by
  obtain ⟨cs, h1, h2⟩ := h
  refine ⟨cs.setIfInBounds i (.string s), heap_setCell_same w b i _ _ _ h1, fun j hj => ?_⟩
  rw [Array.getElem?_setIfInBounds]
  by_cases e : i = j
  · subst e
    have h3 : i < cs.size := by
      have h := h2 i hi
      rcases Nat.lt_or_ge i cs.size with h4 | h4
      · exact h4
      · rw [Array.getElem?_eq_none h4] at h; cases h
    simp [h3]
  · rw [if_neg e]
    show cs[j]? = some (.string (if j = i then s else f j))
    rw [if_neg (fun h : j = i => e h.symm)]; exact h2 j hj
theorem txts_congr {b n : Nat} {f f' : Nat → ByteArray} (h : txts w b n f) (he : ∀ i, i < n → f i = f' i) : txts w b n f' := by
  obtain ⟨cs, h1, h2⟩ := h
  exact ⟨cs, h1, fun i hi => by rw [h2 i hi, he i hi]⟩

/-- A field is written. -/
theorem RD.field (h : RD w g d lim most tv tn tcs) (i : Nat) (v : Value) (d' : Mt.Dk) (lim' : Bool) (most' : Nat) (tv' : Value) (tn' : Nat) (tcs' : List Value) (hok : d'.Ok) (hl : d'.lasts = d.lasts) (hw : d'.waits = d.waits)
    (hc : (rCells g d lim most tv).setIfInBounds i v = rCells g d' lim' most' tv') (hroom : d'.room = if lim' = true ∧ most' < d'.lasts.length then most' else d'.lasts.length) (hm : most' ≤ 9223372036854775807) (ht : w.ownsRow g.D 98 3 tv' tn' tcs') (hv : tv' = tv := by rfl) :
    RD (w.setCell ⟨g.R, i, none⟩ v) g d' lim' most' tv' tn' tcs' := by
  have hr := heap_setCell_same w g.R i _ _ v h.row
  rw [hc] at hr
  have e1 : lastT d' = lastT d := by funext j; unfold lastT; rw [hl]
  have e2 : waitT d' = waitT d := by funext j; unfold waitT; rw [hw]
  refine ⟨hok, hr, fun hn => ?_, fun hn => ?_, own_at ht fun k h1 _ => heap_setCell_other _ _ _ _ (by have := h.ltR; show k ≠ g.R; omega), h.ltR, by rw [hl]; exact h.apart, Nat.le_trans h.size (setCell_size _ _ _), hroom, hm, by rw [hv]; exact h.prot, fun b hb => Nat.lt_of_lt_of_le (h.ltP b hb) (setCell_size _ _ _)⟩
  · rw [hl] at hn ⊢
    rw [e1]
    exact txts_other (h.lasts hn) (h.apart hn).2.2.2.1 v
  · rw [hl] at hn ⊢
    rw [e2]
    exact txts_other (h.waits hn) (h.apart hn).2.2.2.2 v
theorem rCells_len (g : Rg) (d d' : Mt.Dk) (lim : Bool) (most : Nat) (tv : Value) (h : d'.lasts.length = d.lasts.length) (h1 : d'.off = d.off) (h2 : d'.cut = d.cut) (h3 : d'.keep = d.keep) (h4 : d'.torn = d.torn) (h5 : d'.at' = d.at') : rCells g d' lim most tv = rCells g d lim most tv := by
  unfold rCells; rw [h, h1, h2, h3, h4, h5]
/-- A sector that lasts is written. -/
theorem RD.setL (h : RD w g d lim most tv tn tcs) (k : Nat) (hk : k < d.lasts.length) (s : List UInt8) (hs : s.length = 128) : RD (w.setCell ⟨g.bl, k, none⟩ (.string (Mt.str s))) g { d with lasts := d.lasts.set k s } lim most tv tn tcs := by
  have hn : d.lasts.length ≠ 0 := by omega
  obtain ⟨a1, a2, a3, a4, a5⟩ := h.apart hn
  have o := h.ok
  refine ⟨⟨by show d.waits.length = _; rw [List.length_set]; exact o.len, by show (d.lasts.set k s).length ≤ _; rw [List.length_set]; exact o.most, fun i hi => ?_, o.waits, by show d.room ≤ (d.lasts.set k s).length; rw [List.length_set]; exact o.room, o.cut, o.keep, o.torn, o.at'⟩, ?_, fun _ => ?_, fun _ => ?_, own_at h.tears fun k' h1 _ => heap_setCell_other _ _ _ _ (by show k' ≠ g.bl; omega), h.ltR, by rw [List.length_set]; exact h.apart, Nat.le_trans h.size (setCell_size _ _ _), by rw [List.length_set]; exact h.room, h.most, h.prot, fun b hb => Nat.lt_of_lt_of_le (h.ltP b hb) (setCell_size _ _ _)⟩
  · show ((d.lasts.set k s)[i]).length = 128
    rw [List.getElem_set]
    split
    · exact hs
    · exact o.lasts i (by have : i < (d.lasts.set k s).length := hi; rw [List.length_set] at this; exact this)
  · rw [heap_setCell_other _ _ _ _ (Ne.symm a4), rCells_len g d { d with lasts := d.lasts.set k s } lim most tv (by simp) rfl rfl rfl rfl rfl]; exact h.row
  · rw [List.length_set]
    refine txts_congr (txts_same (h.lasts hn) hk _) fun i hi => ?_
    unfold lastT
    simp only [List.getD, List.getElem?_set]
    by_cases e : k = i
    · subst e; simp [hk]
    · rw [if_neg (fun h : i = k => e h.symm), if_neg e]
  · rw [List.length_set]
    exact txts_other (h.waits hn) (Ne.symm a3) _
/-- A sector that waits is written. -/
theorem RD.setW (h : RD w g d lim most tv tn tcs) (k : Nat) (hk : k < d.lasts.length) (o : Option (List UInt8)) (ho : ∀ b, o = some b → b.length = 128) : RD (w.setCell ⟨g.bw, k, none⟩ (.string (wtxt o))) g { d with waits := d.waits.set k o } lim most tv tn tcs := by
  have hn : d.lasts.length ≠ 0 := by omega
  obtain ⟨a1, a2, a3, a4, a5⟩ := h.apart hn
  have q := h.ok
  refine ⟨⟨by show (d.waits.set k o).length = _; rw [List.length_set]; exact q.len, q.most, q.lasts, fun j b hb => ?_, q.room, q.cut, q.keep, q.torn, q.at'⟩, ?_, fun _ => ?_, fun _ => ?_, own_at h.tears fun k' h1 _ => heap_setCell_other _ _ _ _ (by show k' ≠ g.bw; omega), h.ltR, h.apart, Nat.le_trans h.size (setCell_size _ _ _), h.room, h.most, h.prot, fun b hb => Nat.lt_of_lt_of_le (h.ltP b hb) (setCell_size _ _ _)⟩
  · have hb' : (d.waits.set k o)[j]? = some (some b) := hb
    rw [List.getElem?_set] at hb'
    split at hb'
    · split at hb'
      · exact ho b (by simpa using hb')
      · cases hb'
    · exact q.waits j b hb'
  · rw [heap_setCell_other _ _ _ _ (Ne.symm a5), rCells_len g d { d with waits := d.waits.set k o } lim most tv rfl rfl rfl rfl rfl rfl]; exact h.row
  · exact txts_other (h.lasts hn) a3 _
  · refine txts_congr (txts_same (h.waits hn) hk _) fun i hi => ?_
    unfold waitT
    simp only [List.getD, List.getElem?_set]
    have hl : k < d.waits.length := by rw [q.len]; exact hk
    by_cases e : k = i
    · subst e; simp [hl]
    · rw [if_neg (fun h : i = k => e h.symm), if_neg e]
end

/-- What was torn, as cells. -/
def Mt.tearC (T : List (List UInt8 × List UInt8 × List UInt8)) : List Value := T.flatMap fun x => [.string (Mt.str x.1), .string (Mt.str x.2.1), .string (Mt.str x.2.2)]
theorem Mt.tearC_append (A B : List (List UInt8 × List UInt8 × List UInt8)) : Mt.tearC (A ++ B) = Mt.tearC A ++ Mt.tearC B := List.flatMap_append
/-- The document's disk, of at most so many that were torn. -/
def IsR (w : World) (g : Rg) (t : Nat) (d : Mt.Dk) : Prop := ∃ lim most tv tn tcs, RD w g d lim most tv tn tcs ∧ tn ≤ t ∧ tcs = Mt.tearC d.tears
theorem IsR.below {w u : World} {g : Rg} {t : Nat} {d : Mt.Dk} (h : IsR w g t d) (hb : Below w.heap.size w u) : IsR u g t d := by
  obtain ⟨a, b, c, e, f, h, ht⟩ := h
  exact ⟨a, b, c, e, f, h.below hb, ht⟩
theorem IsR.mono {w : World} {g : Rg} {t t' : Nat} {d : Mt.Dk} (h : IsR w g t d) (hb : t ≤ t') : IsR w g t' d := by
  obtain ⟨a, b, c, e, f, h, ht⟩ := h
  exact ⟨a, b, c, e, f, h, Nat.le_trans ht.1 hb, ht.2⟩
theorem IsR.size {w : World} {g : Rg} {t : Nat} {d : Mt.Dk} (h : IsR w g t d) : g.D ≤ w.heap.size := by
  obtain ⟨a, b, c, e, f, h, ht⟩ := h
  exact h.size
theorem IsR.ok {w : World} {g : Rg} {t : Nat} {d : Mt.Dk} (h : IsR w g t d) : d.Ok := by
  obtain ⟨a, b, c, e, f, h, ht⟩ := h
  exact h.ok
end Go.Proofs.YtnioagojiipjlaaGreat

/-
  What the document's disk's small calls come to: Room, Limit, On, Cut, Read.
-/
namespace Go.Proofs.YtnioagojiipjlaaGreat
open Go.RowKit Go.Maps

theorem slc_form (n b c : Nat) : ∃ a, slc n b c = .slice a n c := ⟨_, rfl⟩

section
variable {w : World} {g : Rg} {d : Mt.Dk} {lim : Bool} {most : Nat} {tv : Value} {tn : Nat} {tcs : List Value}

theorem eroom_rd (h : RD w g d lim most tv tn tcs) : Calls Tryz.prog 49 #[.pointer (some ⟨g.R, 0, none⟩)] w fun e w' => e = .returned (.int .i64 (d.room : Int)) ∧ w = w' := by
  have h0 := h.c0
  have h2 := h.c2
  have h3 := h.c3
  have HR := Lib.hid h.room
  obtain ⟨a, ha⟩ := slc_form d.lasts.length g.bl g.cl
  rw [ha] at h0
  clear h ha
  generalize d.lasts.length = n at *
  generalize d.room = r at *
  cases lim with
  | false =>
    go_enter Tryz.func49, Tryz.ntmps49
    go_wp2
    go_ret
    exact ⟨Mt.ret_int (by rw [HR.out]; simp), rfl⟩
  | true =>
    by_cases hm : most < n
    · have hm' : (most : Int) < (n : Int) := by omega
      go_enter Tryz.func49, Tryz.ntmps49
      go_wp2
      go_ret
      exact ⟨Mt.ret_int (by rw [HR.out]; simp [hm]), rfl⟩
    · have hm' : decide ((most : Int) < (n : Int)) = false := decide_eq_false (by omega)
      go_enter Tryz.func49, Tryz.ntmps49
      go_wp2
      go_ret
      exact ⟨Mt.ret_int (by rw [HR.out]; simp [hm]), rfl⟩
theorem eroom_any {t : Nat} (h : IsR w g t d) : Calls Tryz.prog 49 #[.pointer (some ⟨g.R, 0, none⟩)] w fun e w' => e = .returned (.int .i64 (d.room : Int)) ∧ w = w' := by
  obtain ⟨_, _, _, _, _, h, _⟩ := h
  exact eroom_rd h

theorem elimit_any {t : Nat} (h : IsR w g t d) (n : Int) (hn : n ≤ 9223372036854775807) : Calls Tryz.prog 25 #[.pointer (some ⟨g.R, 0, none⟩), .int .i64 n] w fun e w' => e = .returned (.tuple #[]) ∧ IsR w' g t (d.limit n) ∧ Fr g w w' := by
  obtain ⟨lim, most, tv, tn, tcs, h, ht⟩ := h
  have c2 := h.c2
  have c3 := h.c3
  have f2 := h.f 2
  have f3 := h.f 3
  have HP := Lib.hid (show ∀ k : Int, k = (n.toNat : Int) → IsR ((w.setCell ⟨g.R, 2, none⟩ (.bool true)).setCell ⟨g.R, 3, none⟩ (.int .i64 k)) g t (d.limit n) ∧ Fr g w ((w.setCell ⟨g.R, 2, none⟩ (.bool true)).setCell ⟨g.R, 3, none⟩ (.int .i64 k)) from fun k hk => by
    subst hk
    refine ⟨⟨true, n.toNat, tv, tn, tcs, ?_, ht⟩, ((Fr.refl _ _).setCell (.inl rfl) _).setCell (.inl rfl) _⟩
    -- in between the room isn't right: so the two writes are taken together
    have h1 : RD (w.setCell ⟨g.R, 2, none⟩ (.bool true)) g { d with room := if most < d.lasts.length then most else d.lasts.length } true most tv tn tcs := h.field 2 _ { d with room := if most < d.lasts.length then most else d.lasts.length } true most tv tn tcs ⟨h.ok.len, h.ok.most, h.ok.lasts, h.ok.waits, by show (if most < d.lasts.length then most else d.lasts.length) ≤ d.lasts.length; split <;> omega, h.ok.cut, h.ok.keep, h.ok.torn, h.ok.at'⟩ rfl rfl rfl (by simp) h.most h.tears
    refine h1.field 3 _ (d.limit n) true n.toNat tv tn tcs (h.ok.limit n) rfl rfl rfl ?_ (by omega) h1.tears
    show min n.toNat d.lasts.length = _
    have e : (d.limit n).lasts.length = d.lasts.length := rfl
    rw [e]
    by_cases hl : n.toNat < d.lasts.length
    · rw [if_pos ⟨rfl, hl⟩]; omega
    · rw [if_neg (fun h => hl h.2)]; omega)
  clear h ht
  by_cases hn0 : n ≤ 0
  · go_enter Tryz.func25, Tryz.ntmps25
    go_wp2
    refine bodyPost_end (results_none rfl _ _ _) rfl ?_
    exact ⟨rfl, HP.out _ (by omega)⟩
  · go_enter Tryz.func25, Tryz.ntmps25
    go_wp2
    refine bodyPost_end (results_none rfl _ _ _) rfl ?_
    exact ⟨rfl, HP.out _ (by omega)⟩

theorem eon_any {t : Nat} (h : IsR w g t d) : Calls Tryz.prog 31 #[.pointer (some ⟨g.R, 0, none⟩)] w fun e w' => e = .returned (.tuple #[]) ∧ IsR w' g t d.on ∧ Fr g w w' := by
  obtain ⟨lim, most, tv, tn, tcs, h, ht⟩ := h
  have c4 := h.c4
  have c5 := h.c5
  have f4 := h.f 4
  have f5 := h.f 5
  have HP : Hid (IsR ((w.setCell ⟨g.R, 4, none⟩ (.bool false)).setCell ⟨g.R, 5, none⟩ (.int .i64 0)) g t d.on ∧ Fr g w ((w.setCell ⟨g.R, 4, none⟩ (.bool false)).setCell ⟨g.R, 5, none⟩ (.int .i64 0))) := Lib.hid (by
    refine ⟨⟨lim, most, tv, tn, tcs, ?_, ht⟩, ((Fr.refl _ _).setCell (.inl rfl) _).setCell (.inl rfl) _⟩
    exact ((h.field 4 _ { d with off := false } lim most tv tn tcs (h.ok.setOff false) rfl rfl rfl h.room h.most h.tears).field 5 _ d.on lim most tv tn tcs h.ok.on rfl rfl rfl h.room h.most (own_at h.tears fun k h1 _ => heap_setCell_other _ _ _ _ (by have := h.ltR; show k ≠ g.R; omega))))
  clear h ht
  go_enter Tryz.func31, Tryz.ntmps31
  go_wp2
  refine bodyPost_end (results_none rfl _ _ _) rfl ?_
  exact ⟨rfl, HP.out⟩

theorem RD.setCut (h : RD w g d lim most tv tn tcs) (k a : Nat) (b c : Int) (hk : k ≤ 9223372036854775807) (ha : a < 18446744073709551616) (hb : -9223372036854775808 ≤ b ∧ b ≤ 9223372036854775807) (hc : -9223372036854775808 ≤ c ∧ c ≤ 9223372036854775807) :
    RD ((((w.setCell ⟨g.R, 5, none⟩ (.int .i64 (k : Int))).setCell ⟨g.R, 6, none⟩ (.int .u64 (a : Int))).setCell ⟨g.R, 7, none⟩ (.int .i64 b)).setCell ⟨g.R, 8, none⟩ (.int .i64 c)) g (d.cutAt k a b c) lim most tv tn tcs := by
  have o := h.ok
  have o1 : ({ d with cut := k } : Mt.Dk).Ok := o.setCut k hk
  have o2 : ({ d with cut := k, keep := a } : Mt.Dk).Ok := ⟨o.len, o.most, o.lasts, o.waits, o.room, hk, ha, o.torn, o.at'⟩
  have o3 : ({ d with cut := k, keep := a, torn := b } : Mt.Dk).Ok := ⟨o.len, o.most, o.lasts, o.waits, o.room, hk, ha, hb, o.at'⟩
  have o4 : (d.cutAt k a b c).Ok := ⟨o.len, o.most, o.lasts, o.waits, o.room, hk, ha, hb, hc⟩
  have h1 := h.field 5 (.int .i64 (k : Int)) _ lim most tv tn tcs o1 rfl rfl rfl h.room h.most h.tears
  have h2 := h1.field 6 (.int .u64 (a : Int)) _ lim most tv tn tcs o2 rfl rfl rfl h.room h.most h1.tears
  have h3 := h2.field 7 (.int .i64 b) _ lim most tv tn tcs o3 rfl rfl rfl h.room h.most h2.tears
  exact h3.field 8 (.int .i64 c) _ lim most tv tn tcs o4 rfl rfl rfl h.room h.most h3.tears
set_option maxRecDepth 100000 in
theorem ecut_any {t : Nat} (h : IsR w g t d) (n : Int) (a : Nat) (b c : Int) (hn : n ≤ 9223372036854775807) (ha : a < 18446744073709551616) (hb : -9223372036854775808 ≤ b ∧ b ≤ 9223372036854775807) (hc : -9223372036854775808 ≤ c ∧ c ≤ 9223372036854775807) :
    Calls Tryz.prog 23 #[.pointer (some ⟨g.R, 0, none⟩), .int .i64 n, .agg #[.int .u64 (a : Int), .int .i64 b, .int .i64 c]] w fun e w' => e = .returned (.tuple #[]) ∧ IsR w' g t (d.cutAt n.toNat a b c) ∧ Fr g w w' := by
  obtain ⟨lim, most, tv, tn, tcs, h, ht⟩ := h
  have hsz := h.size
  have HP := Lib.hid (show ∀ k : Int, k = (n.toNat : Int) → IsR (((((w.setCell ⟨g.R, 5, none⟩ (.int .i64 k)).setCell ⟨g.R, 6, none⟩ (.int .u64 (a : Int))).setCell ⟨g.R, 7, none⟩ (.int .i64 b)).setCell ⟨g.R, 8, none⟩ (.int .i64 c)).alloc (.cells #[.int .u64 (a : Int), .int .i64 b, .int .i64 c] 42)) g t (d.cutAt n.toNat a b c)
      ∧ Fr g w (((((w.setCell ⟨g.R, 5, none⟩ (.int .i64 k)).setCell ⟨g.R, 6, none⟩ (.int .u64 (a : Int))).setCell ⟨g.R, 7, none⟩ (.int .i64 b)).setCell ⟨g.R, 8, none⟩ (.int .i64 c)).alloc (.cells #[.int .u64 (a : Int), .int .i64 b, .int .i64 c] 42)) from fun k hk => by
    subst hk
    have hS := h.setCut n.toNat a b c (by omega) ha hb hc
    exact ⟨⟨lim, most, tv, tn, tcs, hS.alloc _, ht⟩, (((((Fr.refl g w).setCell (.inl rfl) _).setCell (.inl rfl) _).setCell (.inl rfl) _).setCell (.inl rfl) _).alloc hS.size _⟩)
  have c5 := h.c5
  have c6 := h.c6
  have c7 := h.c7
  have c8 := h.c8
  have f5 := h.f 5
  have f6 := h.f 6
  have f7 := h.f 7
  have f8 := h.f 8
  have hlt : g.R < w.heap.size := Nat.lt_of_lt_of_le h.ltR hsz
  clear h ht ha hb hc
  go_enter Tryz.func23, Tryz.ntmps23
  go_wp2
  all_goals
    refine bodyPost_end (results_none rfl _ _ _) rfl ?_
    exact ⟨rfl, HP.out _ (by omega)⟩

theorem txt_ne {a b : List UInt8} (h : a ≠ b) : ((Mt.str a).toList == (Mt.str b).toList) = false := by
  rw [beq_eq_false_iff_ne]
  intro e
  apply h
  rw [ByteArray.toList_eq, ByteArray.toList_eq] at e
  exact e
theorem str_empty {b : List UInt8} (h : b.length = 128) : (Mt.str b).toList.isEmpty = false := by
  rw [ByteArray.toList_eq]
  cases b with
  | nil => cases h
  | cons x r => rfl
theorem eread_any {t : Nat} (h : IsR w g t d) (i : Int) : Calls Tryz.prog 41 #[.pointer (some ⟨g.R, 0, none⟩), .int .i64 i] w fun e w' => e = .returned (.tuple #[.string (Mt.str (d.read i).1), .int .i64 (d.read i).2]) ∧ w = w' := by
  obtain ⟨lim, most, tv, tn, tcs, h, ht⟩ := h
  have c4 := h.c4
  have c0 := h.c0
  have c1 := h.c1
  cases hoff : d.off with
  | true =>
    have e : d.ask i = 10 := by unfold Mt.Dk.ask; rw [hoff]; rfl
    rw [Mt.read_no d i (by rw [e]; decide), e]
    rw [hoff] at c4
    clear h ht e hoff c0 c1
    go_enter Tryz.func41, Tryz.ntmps41
    go_wp2
    go_ret2
    exact ⟨rfl, rfl⟩
  | false =>
    rw [hoff] at c4
    by_cases hi : i < 0 ∨ (d.lasts.length : Int) ≤ i
    · have e : d.ask i = 2 := by unfold Mt.Dk.ask; rw [hoff]; simp [hi]
      rw [Mt.read_no d i (by rw [e]; decide), e]
      obtain ⟨a, ha⟩ := slc_form d.lasts.length g.bl g.cl
      rw [ha] at c0
      clear h ht e hoff ha
      generalize d.lasts.length = n at *
      by_cases h1 : i < 0
      · go_enter Tryz.func41, Tryz.ntmps41
        go_wp2
        go_ret2
        exact ⟨rfl, rfl⟩
      · have h1' : decide (i < 0) = false := decide_eq_false h1
        have h2 : (n : Int) ≤ i := by omega
        clear hi
        go_enter Tryz.func41, Tryz.ntmps41
        go_wp2
        go_ret2
        exact ⟨rfl, rfl⟩
    · have e : d.ask i = 0 := by unfold Mt.Dk.ask; rw [hoff, if_neg hi]; rfl
      rw [Mt.read_yes d i e]
      obtain ⟨k, rfl⟩ : ∃ k : Nat, i = k := ⟨i.toNat, by omega⟩
      have hk : k < d.lasts.length := by omega
      rw [Int.toNat_natCast]
      rw [slc_pos (by omega)] at c0 c1
      have cw := h.cW k hk
      have cl := h.cL k hk
      unfold waitT at cw
      unfold lastT at cl
      have h1' : decide ((k : Int) < 0) = false := decide_eq_false (by omega)
      have h2' : decide ((d.lasts.length : Int) ≤ (k : Int)) = false := decide_eq_false (by omega)
      have h3' : (k : Int) < (d.lasts.length : Int) := by omega
      have hk0 : (0 : Int) ≤ (k : Int) := by omega
      have hl : k < d.waits.length := by rw [h.ok.len]; exact hk
      cases hx : d.waits.getD k none with
      | none =>
        rw [hx] at cw
        clear h ht e hoff hx hl hi hk
        generalize d.lasts.length = n at *
        have cw' : w.cell? ⟨g.bw, k, none⟩ = some (.string ByteArray.empty) := cw
        clear cw
        go_enter Tryz.func41, Tryz.ntmps41
        go_wp2
        go_ret2
        exact ⟨rfl, rfl⟩
      | some b =>
        rw [hx] at cw
        have cw' : w.cell? ⟨g.bw, k, none⟩ = some (.string (Mt.str b)) := cw
        have hb : b.length = 128 := h.ok.waits k b (by
          rw [List.getElem?_eq_getElem hl]
          simpa [List.getD, List.getElem?_eq_getElem hl] using hx)
        have hne := str_empty hb
        clear h ht e hoff hx hl hi hk cw hb cl
        generalize d.lasts.length = n at *
        go_enter Tryz.func41, Tryz.ntmps41
        go_wp2
        go_ret2
        exact ⟨rfl, rfl⟩
end
end Go.Proofs.YtnioagojiipjlaaGreat
