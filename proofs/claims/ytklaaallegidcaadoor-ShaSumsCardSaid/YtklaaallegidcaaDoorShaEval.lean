/-
  The chapter's two examples, reckoned out.
-/
import Derived.Test.YtklaaallegidcaaDoorShaMath
namespace Go.Proofs.YtklaaallegidcaaDoor.Mt

theorem sha_nil4 : (sha []).take 4 = [0xe3, 0xb0, 0xc4, 0x42] := by decide +kernel
theorem sha_abc4 : (sha [97, 98, 99]).take 4 = [0xba, 0x78, 0x16, 0xbf] := by decide +kernel
theorem str_take (l : List UInt8) (n : Nat) : (str l).extract 0 n = str (l.take n) := by
  apply ByteArray.ext
  rw [ByteArray.data_extract]
  simp [str]
theorem sha_size (l : List UInt8) : (str (sha l)).size = 32 := by rw [str_size, sha_length]
theorem sha_nil_str : (str (sha [])).extract 0 4 = ⟨#[227, 176, 196, 66]⟩ := by rw [str_take, sha_nil4]; rfl
theorem sha_abc_str : (str (sha [97, 98, 99])).extract 0 4 = ⟨#[186, 120, 22, 191]⟩ := by rw [str_take, sha_abc4]; rfl

end Go.Proofs.YtklaaallegidcaaDoor.Mt
