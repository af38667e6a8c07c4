/-
  What the journal's sectors come to: seal, a cell's and a head's bytes.
-/
import Derived.Test.YtmahkgkhnpffeaaJrB
import Derived.Test.YtmahkgkhnpffeaaShelfR
import Derived.Test.YtmahkgkhnpffeaaCrcS
import Derived.Deep.RegionHeld3
namespace Go.Proofs.Ytmahkgkhnpffeaa
open Go.RowKit

theorem Try.repX : Builder.Extra Try.prog Try.repA_ren where
  sizeBuilder := by kernel_rfl
  liesBuilder := by kernel_rfl
  t5 := Try.underlying5
  a5 := Try.isAgg5
  z5 := Try.sizeOf5
  v5 := Try.zeroValue5
  infoByte := by kernel_rfl
  cellsByte := by kernel_rfl
  sizeByte := by kernel_rfl
  neB5 := by decide
theorem Mt.rep_one (x : UInt8) : ∀ n, Lib.repeatL [x] n = List.replicate n x
  | 0 => rfl
  | n + 1 => by
    have := Mt.rep_one x n
    simp [Lib.repeatL, List.replicate_succ] at this ⊢
    try exact this
theorem rep_any (n : Nat) (w : World) (hn : n ≤ 1000) : Calls Try.prog 60 #[.string ⟨#[0]⟩, .int .i64 n] w fun e w' => e = .returned (.string (Mt.str (List.replicate n 0))) ∧ Below w.heap.size w w' := by
  have h := Any.strings_Repeat Try.repA Try.repX ⟨#[0]⟩ n w (by omega) (by have : (ByteArray.mk #[0]).size = 1 := rfl; rw [this]; omega)
  have e : (ByteArray.mk #[0]).data.toList = [0] := rfl
  rw [e, Mt.rep_one] at h
  exact h
/-- Texts behind each other. -/
theorem Mt.str_append (a b : List UInt8) : Mt.str a ++ Mt.str b = Mt.str (a ++ b) := by
  apply ByteArray.ext
  simp [Mt.str]
theorem putb_any (n size : Nat) (w : World) (h1 : 1 ≤ size) (h2 : size ≤ 8) : Calls Try.prog 53 #[.int .u64 n, .int .i64 size] w fun e w' => e = .returned (.string (Mt.str (Mt.bb n size))) ∧ Below w.heap.size w w' := put_yes n size w h1 h2
set_option maxRecDepth 100000 in
theorem seal_any (l : List UInt8) (w : World) (hl : l.length ≤ 124) : Calls Try.prog 52 #[.string (Mt.str l)] w fun e w' => e = .returned (.string (Mt.str (Mt.sealL l))) ∧ Below w.heap.size w w' := by
  have HREP := Lib.hid (fun u => rep_any (124 - l.length) u (by omega))
  have HL := Lib.hid (Mt.filled_length l hl)
  have HF := Lib.hid (show Mt.str l ++ Mt.str (List.replicate (124 - l.length) 0) = Mt.str (Mt.filled l) from Mt.str_append _ _)
  have HS : Hid (∀ (B : Nat) (u : World), B = u.heap.size → Calls Try.prog 61 #[.slice (some ⟨B, 0, none⟩) 1 1] (u.alloc (.cells #[.string (Mt.str (Mt.filled l))] 9)) fun e w' => e = .returned (.int .u32 ((Mt.addS 0 (Mt.filled l) : Nat) : Int)) ∧ (u.alloc (.cells #[.string (Mt.str (Mt.filled l))] 9)) = w') := Lib.hid (fun B u hB => sum_one (Mt.str (Mt.filled l)) B u hB (by rw [Mt.str_size, Mt.filled_length l hl]; omega))
  have HP := Lib.hid (fun u => putb_any (Mt.addS 0 (Mt.filled l)) 4 u (by omega) (by omega))
  have HQ := Lib.hid (show Mt.str (Mt.bb (Mt.addS 0 (Mt.filled l)) 4) ++ Mt.str (Mt.filled l) = Mt.str (Mt.sealL l) from Mt.str_append _ _)
  have hz := Mt.str_size l
  have hn : ((124 : Int) - (l.length : Int)) = ((124 - l.length : Nat) : Int) := by omega
  have HZ := Lib.hid hz
  have HN := Lib.hid hn
  have HLT := Lib.hid (Mt.addS_lt 0 (Mt.filled l))
  have hls : (Mt.str l).size ≤ 124 := by rw [hz]; exact hl
  clear hz hn hl
  have hd124 : (124 : Int) - ((Mt.str l).size : Int) = (124 : Int) - (l.length : Int) := by rw [HZ.out]
  have HD := Lib.hid hd124
  clear hd124
  go_enter Try.func52, Try.ntmps52
  go_wp2_with fail
  rw [HD.out, HN.out]
  refine (HREP.out _).mono ?_
  rintro e w1 ⟨rfl, hb1⟩
  have HB1 := Lib.hid hb1
  have hrs : (Mt.str (List.replicate (124 - l.length) 0)).size ≤ 124 := by rw [Mt.str_size, List.length_replicate]; omega
  clear hb1
  go_wp2_with fail
  rw [HF.out]
  refine (HS.out _ _ rfl).mono ?_
  rintro e w2 ⟨rfl, rfl⟩
  have hfs : (Mt.str (Mt.filled l)).size ≤ 124 := by rw [Mt.str_size, HL.out]; omega
  have HB2 := Lib.hid (HB1.out.alloc HB1.out.size (.cells #[.string (Mt.str (Mt.filled l))] 9))
  have hw : IntKind.u64.wrap ((Mt.addS 0 (Mt.filled l) : Nat) : Int) = ((Mt.addS 0 (Mt.filled l) : Nat) : Int) := by
    have := HLT.out
    simp [IntKind.wrap, IntKind.bits, IntKind.signed]; omega
  go_wp2_with fail
  refine (HP.out _).mono ?_
  rintro e w3 ⟨rfl, hb3⟩
  have HB3 := Lib.hid (HB2.out.trans (hb3.mono HB2.out.size))
  have hps : (Mt.str (Mt.bb (Mt.addS 0 (Mt.filled l)) 4)).size ≤ 4 := by rw [Mt.str_size, Mt.bb_length]; omega
  clear hb3 hw
  go_wp2_with fail
  rw [HQ.out]
  go_ret
  exact ⟨rfl, HB3.out⟩
end Go.Proofs.Ytmahkgkhnpffeaa
