/-
  What the state's Write comes to: any parts.
-/
import Derived.Test.YtpdionmecflibaaDoorWrite
import Derived.Test.YtpdionmecflibaaDoorCrcMath
namespace Go.Proofs.YtpdionmecflibaaDoor
open Go.RowKit

/-- A slice of texts: it is empty, or leads to cells that hold them. -/
def IsStrs (w : World) (a : Option Addr) (n : Nat) (ss : List ByteArray) : Prop :=
  ss.length = n ∧ (n = 0 ∨ ∃ b off, a = some ⟨b, off, none⟩ ∧ ∀ i (hi : i < ss.length), w.cell? ⟨b, off + i, none⟩ = some (.string ss[i])) ∧ ∀ p ∈ ss, p.size ≤ maxLen
/-- .. and they lie elsewhere than the block B. -/
def Apart (B : Nat) (a : Option Addr) (n : Nat) : Prop := n = 0 ∨ ∀ p, a = some p → p.block ≠ B

theorem write_nilstate (a : Value) (w : World) : Calls Tryd.prog 12 #[.pointer none, a] w fun e w' => e = .returned (.tuple #[]) ∧ w = w' := by
  go_enter Tryd.func12, Tryd.ntmps12
  go_wp2_with fail
  refine bodyPost_ret (results_none rfl _ _ _) rfl ?_
  exact ⟨rfl, rfl⟩

theorem Mt.cat_len_take (ss : List ByteArray) (k : Nat) : (Mt.cat (ss.take k)).length ≤ (Mt.cat ss).length := by
  have e : ss = ss.take k ++ ss.drop k := (List.take_append_drop k ss).symm
  have h : Mt.cat ss = Mt.cat (ss.take k) ++ Mt.cat (ss.drop k) := by
    unfold Mt.cat
    rw [← List.flatten_append, ← List.map_append, List.take_append_drop]
  rw [h, List.length_append]; omega

set_option maxHeartbeats 800000 in
set_option maxRecDepth 100000 in
theorem writes_any (B : Nat) (M : List UInt8) (a : Option Addr) (n cap : Nat) (ss : List ByteArray) (w : World) (h : IsSt w B M) (hg : LaidN B w) (hs : IsStrs w a n ss) (hap : Apart B a n)
    (hM : M.length + (Mt.cat ss).length ≤ 1099511627776) (hn : n ≤ 9223372036854775807) :
    Calls Tryd.prog 12 #[.pointer (some ⟨B, 0, none⟩), .slice a n cap] w fun e w' => e = .returned (.tuple #[]) ∧ IsSt w' B (M ++ Mt.cat ss) ∧ Only B w w' := by
  have HST := Lib.hid h
  have HG := Lib.hid hg
  have HSS := Lib.hid hs
  have HAP := Lib.hid hap
  have HM := Lib.hid hM
  clear h hg hs hap hM
  go_enter Tryd.func12, Tryd.ntmps12
  go_wp2_with fail
  go_loopw [10] (fun i wr => ∃ k : Nat, k ≤ n ∧ i = .int .i64 k ∧ Hid (IsSt wr B (M ++ Mt.cat (ss.take k))) ∧ Hid (Only B w wr)) (fun i _ => n - (intOf i).toNat)
  case atStart => exact ⟨0, Nat.zero_le _, rfl, Lib.hid (by simpa [Mt.cat] using HST.out), Lib.hid (Only.refl _ _)⟩
  case round =>
    obtain ⟨k, hk, rfl, HS, HB⟩ := hrel
    by_cases hlt : k < n
    · have hlt' : (k : Int) < n := by omega
      obtain ⟨hl, h1, h2⟩ := HSS.out
      rcases h1 with h0 | ⟨b, off, rfl, hc⟩
      · omega
      have hkl : k < ss.length := by omega
      have hbB : b ≠ B := by
        rcases HAP.out with h0 | h3
        · omega
        · exact h3 _ rfl
      have hcell : wr.cell? ⟨b, off + k, none⟩ = some (.string ss[k]) := by
        rw [HB.out.cell (p := ⟨b, off + k, none⟩) (World.block_lt_of_cell? w _ (hc k hkl)) hbB]; exact hc k hkl
      have HCAT := Lib.hid (Mt.cat_snoc ss k hkl)
      have HLE := Lib.hid (Mt.cat_len_take ss (k + 1))
      obtain ⟨p, hp⟩ : ∃ p, ss[k] = p := ⟨_, rfl⟩
      rw [hp] at hcell HCAT
      have HWR := Lib.hid (write_any B _ p wr HS.out (HG.out.only HB.out) (by
        have h4 := HLE.out
        rw [HCAT.out, List.length_append] at h4
        have h5 : p.data.toList.length = p.size := rfl
        have h6 := HM.out
        rw [List.length_append]; omega))
      clear hp hc h2 hl
      go_wp2_with fail
      refine (HWR.out).mono ?_
      rintro e w2 ⟨rfl, hs2, hb2⟩
      have HS2 := Lib.hid hs2
      have HB2 := Lib.hid (HB.out.trans hb2)
      clear hs2 hb2
      go_wp2_with fail
      go_roundw
      case rel =>
        refine ⟨k + 1, by omega, by go_num, Lib.hid ?_, HB2⟩
        rw [HCAT.out, ← List.append_assoc]
        exact HS2.out
      case measure => simp [intOf]; omega
    · obtain rfl : k = n := by omega
      have hlt' : decide ((k : Int) < k) = false := by simp
      go_wp2_with fail
      refine bodyPost_end (results_none rfl _ _ _) rfl ?_
      refine ⟨rfl, ?_, HB.out⟩
      have h := HS.out
      rw [List.take_of_length_le (by have := HSS.out.1; omega)] at h
      exact h

end Go.Proofs.YtpdionmecflibaaDoor
