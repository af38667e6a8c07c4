/-
  Plain facts on bytes turned within four in a row; and what []byte(s) lays.
-/
import Derived.Test.YtfcfhfaccpiffaaRCrc
import Derived.Lib.ConvBytes
namespace Go.Proofs.Ytfcfhfaccpiffaa.Mt

/-- Behind i of the bytes that are turned. -/
def tl (l : List UInt8) (K t : Nat) : Nat → List UInt8
  | 0 => l
  | i + 1 => (tl l K t i).set (K + i) (UInt8.ofNat (((tl l K t i).getD (K + i) 0).toNat ^^^ tb t i))
theorem tl_length (l : List UInt8) (K t : Nat) : ∀ i, (tl l K t i).length = l.length
  | 0 => rfl
  | i + 1 => by simp [tl, tl_length l K t i]

theorem tb_lt (t i : Nat) : tb t i < 256 := Nat.mod_lt _ (by decide)
theorem turned_toNat (c : UInt8) (e : Nat) (he : e < 256) : (UInt8.ofNat (c.toNat ^^^ e)).toNat = c.toNat ^^^ e := by
  have h : c.toNat ^^^ e < 256 := Nat.xor_lt_two_pow (n := 8) c.toNat_lt he
  rw [UInt8.toNat_ofNat']
  exact Nat.mod_eq_of_lt h

theorem four (l : List UInt8) (K : Nat) (h : K + 4 ≤ l.length) : ∃ A c0 c1 c2 c3 B, l = A ++ (c0 :: c1 :: c2 :: c3 :: B) ∧ A.length = K := by
  refine ⟨l.take K, l[K], l[K + 1], l[K + 2], l[K + 3], l.drop (K + 4), ?_, by simp; omega⟩
  have h0 : l.drop K = l[K] :: l.drop (K + 1) := List.drop_eq_getElem_cons (by omega)
  have h1 : l.drop (K + 1) = l[K + 1] :: l.drop (K + 2) := List.drop_eq_getElem_cons (by omega)
  have h2 : l.drop (K + 2) = l[K + 2] :: l.drop (K + 3) := List.drop_eq_getElem_cons (by omega)
  have h3 : l.drop (K + 3) = l[K + 3] :: l.drop (K + 4) := List.drop_eq_getElem_cons (by omega)
  rw [← h3, ← h2, ← h1, ← h0, List.take_append_drop]

theorem set_in (A X : List UInt8) (i : Nat) (c : UInt8) : (A ++ X).set (A.length + i) c = A ++ X.set i c := by
  rw [List.set_append_right _ _ (by omega), Nat.add_sub_cancel_left]
theorem getD_in (A X : List UInt8) (i : Nat) : (A ++ X).getD (A.length + i) 0 = X.getD i 0 := by
  simp only [List.getD]
  rw [List.getElem?_append_right (by omega), Nat.add_sub_cancel_left]

theorem tl_four (A : List UInt8) (c0 c1 c2 c3 : UInt8) (B : List UInt8) (t : Nat) : tl (A ++ (c0 :: c1 :: c2 :: c3 :: B)) A.length t 4 =
    A ++ (UInt8.ofNat (c0.toNat ^^^ tb t 0) :: UInt8.ofNat (c1.toNat ^^^ tb t 1) :: UInt8.ofNat (c2.toNat ^^^ tb t 2) :: UInt8.ofNat (c3.toNat ^^^ tb t 3) :: B) := by
  have s0 : tl (A ++ (c0 :: c1 :: c2 :: c3 :: B)) A.length t 1 = A ++ (UInt8.ofNat (c0.toNat ^^^ tb t 0) :: c1 :: c2 :: c3 :: B) := by
    simp only [tl]; rw [getD_in, set_in]; rfl
  have s1 : tl (A ++ (c0 :: c1 :: c2 :: c3 :: B)) A.length t 2 = A ++ (UInt8.ofNat (c0.toNat ^^^ tb t 0) :: UInt8.ofNat (c1.toNat ^^^ tb t 1) :: c2 :: c3 :: B) := by
    rw [tl, s0, getD_in, set_in]; rfl
  have s2 : tl (A ++ (c0 :: c1 :: c2 :: c3 :: B)) A.length t 3 = A ++ (UInt8.ofNat (c0.toNat ^^^ tb t 0) :: UInt8.ofNat (c1.toNat ^^^ tb t 1) :: UInt8.ofNat (c2.toNat ^^^ tb t 2) :: c3 :: B) := by
    rw [tl, s1, getD_in, set_in]; rfl
  rw [tl, s2, getD_in, set_in]; rfl

/-- What is turned within four bytes in a row is seen. -/
theorem burst (l : List UInt8) (K t : Nat) (h : K + 4 ≤ l.length) (ht : t < 4294967296) (h0 : t ≠ 0) : addS 0 (tl l K t 4) ≠ addS 0 l := by
  obtain ⟨A, c0, c1, c2, c3, B, rfl, rfl⟩ := four l K h
  rw [tl_four]
  have hf : full - 0 < 4294967296 := by unfold full; omega
  have hA := reg_lt hf A
  have hne := reg_burst (r := reg (full - 0) A) ht h0 c0 c1 c2 c3 _ _ _ _
    ⟨turned_toNat c0 _ (tb_lt t 0), turned_toNat c1 _ (tb_lt t 1), turned_toNat c2 _ (tb_lt t 2), turned_toNat c3 _ (tb_lt t 3)⟩
  have hB := reg_ne (reg_lt hA _) (reg_lt hA _) hne B
  have e1 : ∀ x0 x1 x2 x3 : UInt8, reg (full - 0) (A ++ (x0 :: x1 :: x2 :: x3 :: B)) = reg (reg (reg (full - 0) A) [x0, x1, x2, x3]) B := by
    intro x0 x1 x2 x3
    rw [reg_append, show (x0 :: x1 :: x2 :: x3 :: B) = [x0, x1, x2, x3] ++ B from rfl, reg_append]
  unfold addS
  rw [e1, e1]
  have b1 := reg_lt (reg_lt hA [UInt8.ofNat (c0.toNat ^^^ tb t 0), UInt8.ofNat (c1.toNat ^^^ tb t 1), UInt8.ofNat (c2.toNat ^^^ tb t 2), UInt8.ofNat (c3.toNat ^^^ tb t 3)]) B
  have b2 := reg_lt (reg_lt hA [c0, c1, c2, c3]) B
  unfold full at *
  omega

end Go.Proofs.Ytfcfhfaccpiffaa.Mt
namespace Go.Proofs.Ytfcfhfaccpiffaa
open Go.RowKit

/-- []byte(s): a new row that holds the text's bytes; nothing that was there turns. -/
theorem conv_bytes (s : ByteArray) (w : World) : ∃ (cp : Nat) (w1 : World), (convert 9 47 (.string s)).run Try.prog w = .ok (.slice (some ⟨w.heap.size, 0, none⟩) s.size cp) w1 ∧
    (∀ j, j < s.size → w1.cell? ⟨w.heap.size, j, none⟩ = some (.int .u8 (s.data.toList.getD j 0).toNat)) ∧ (∀ j, j < s.size → w1.frozen? ⟨w.heap.size, j, none⟩ = false) ∧ Below w.heap.size w w1 := by
  refine ⟨grownCap w s.size 0 5, Lib.bytesWorld w 5 s, Lib.run_convert_string_bytes w 9 47 5 s Try.underlying9 Try.underlying47 Try.underlying5, fun j hj => Lib.bytesWorld_cell w 5 s j hj, fun j hj => ?_, ?_⟩
  · have hsz : s.size ≤ (Lib.bytesCells w 5 s).size := by
      unfold Lib.bytesCells
      rw [Array.size_append, Array.size_map]
      exact Nat.le_add_right _ _
    simp only [World.frozen?, Lib.bytesWorld_at_new]
    simp; omega
  · have hsz := Lib.bytesWorld_size w 5 s
    refine ⟨?_, ?_, ?_, by omega, fun k hk => Lib.bytesWorld_at_old w 5 s k hk⟩
    · simp [Lib.bytesWorld, World.freeze, World.alloc, World.drew, -World.alloc_eq, -World.drew_eq]
    · simp [Lib.bytesWorld, World.freeze, World.alloc, World.drew, -World.alloc_eq, -World.drew_eq]
    · simp [Lib.bytesWorld, World.freeze, World.alloc, World.drew, -World.alloc_eq, -World.drew_eq]

end Go.Proofs.Ytfcfhfaccpiffaa
