/-
  What sha.appendNumber comes to.
-/
import Derived.Test.YtpdionmecflibaaDoorTurn
import Derived.Test.YtpdionmecflibaaDoorPut
import Derived.OwnWalk
namespace Go.Proofs.YtpdionmecflibaaDoor
open Go.RowKit

theorem Mt.be8_get (n : Nat) : ∀ (size i j : Nat), i + j + 1 = size → (Mt.be8 n size)[i]? = some (UInt8.ofNat (n / 256 ^ j))
  | 0, i, j, h => by omega
  | s + 1, 0, j, h => by
    obtain rfl : j = s := by omega
    rfl
  | s + 1, i + 1, j, h => by
    show (Mt.be8 n s)[i]? = _
    exact Mt.be8_get n s i j (by omega)
theorem Mt.be8_snoc (n size i j : Nat) (h : i + j + 1 = size) : (Mt.be8 n size).take (i + 1) = (Mt.be8 n size).take i ++ [UInt8.ofNat (n / 256 ^ j)] := by
  rw [List.take_add_one, Mt.be8_get n size i j h]; rfl

set_option maxHeartbeats 800000 in
set_option maxRecDepth 100000 in
theorem app_any (n size k B : Nat) (L : List UInt8) (v : Value) (w : World) (hs : size ≤ 8) (hk : k ≤ 1099511627776) (hB : B ≤ w.heap.size) (hown : w.ownsRow B 5 1 v k (Mt.cs L)) :
    Calls Tryd.prog 28 #[v, .int .u64 n, .int .i64 size] w fun e w' => ∃ v', e = .returned v' ∧ w'.ownsRow B 5 1 v' (k + size) (Mt.cs (L ++ Mt.be8 n size)) ∧ Below B w w' := by
  obtain ⟨i0, hi, hz0, hz1, hz2⟩ := info_parts Tryd.info5
  have HOWN := Lib.hid hown
  clear hown
  go_enter Tryd.func28, Tryd.ntmps28
  go_wp2_with fail
  go_loopw [0, 9] (fun v i wr => ∃ m : Nat, m ≤ size ∧ i = .int .i64 m ∧ Hid (wr.ownsRow B 5 1 v (k + m) (Mt.cs (L ++ (Mt.be8 n size).take m))) ∧ Hid (Below B w wr))
    (fun _ i _ => size - (intOf i).toNat)
  case atStart => exact ⟨0, Nat.zero_le _, rfl, Lib.hid (by simpa using HOWN.out), Lib.hid (Below.refl _ _)⟩
  case round =>
    obtain ⟨m, hm, rfl, HO, HB⟩ := hrel
    by_cases hlt : m < size
    · have hlt' : (m : Int) < size := by omega
      have HSN := Lib.hid (Mt.be8_snoc n size m (size - 1 - m) (by omega))
      have HBY := Lib.hid (Mt.byte_of n (size - 1 - m))
      have hsz := HB.out.size
      have hown := HO.out
      go_wp2_with (at_builtin; refine wpList_append_own _ rfl _ _ 46 rfl B 5 i0 (.int .u8 0) 1 1 Tryd.underlying46 hi hz0 hz1 hz2 rfl (by decide) _ _ _ rfl (hown.alloc _) ⟨wr.heap.size, 0, none⟩ 1 1 [.int .u8 ((n : Int) / 2 ^ (8 * (size - 1 - m)) % 256)] rfl rfl (cell_one_new _ _ _) (by simp [Value.oneCell']) (by unfold maxLen; omega) (by omega) (by simp; omega) ?_; intro v1 w1 hown1 hgr1 _)
      have HB1 : Hid (Below B w w1) := Lib.hid ((HB.out.alloc (by omega) _).grown hgr1 (by simp; omega) (fun j hj => (hown.lt j hj).1))
      have HO1 := Lib.hid hown1
      clear hgr1 hown1 hown HO HB
      go_roundw
      case rel =>
        refine ⟨m + 1, by omega, by go_num, Lib.hid ?_, HB1⟩
        have h := HO1.out
        have e : Mt.cs (L ++ (Mt.be8 n size).take (m + 1)) = Mt.cs (L ++ (Mt.be8 n size).take m) ++ [.int .u8 ((n : Int) / 2 ^ (8 * (size - 1 - m)) % 256)] := by
          rw [HSN.out, ← List.append_assoc, Mt.cs_append _ [_], HBY.out]
          simp [Mt.cs]
        rw [e]
        exact h
      case measure => simp [intOf]; omega
    · obtain rfl : m = size := by omega
      have HT := Lib.hid (show (Mt.be8 n m).take m = Mt.be8 n m from List.take_of_length_le (by rw [Mt.be8_length]; exact Nat.le_refl _))
      have hlt' : decide ((m : Int) < m) = false := by simp
      go_wp2_with fail
      go_ret
      refine ⟨_, rfl, ?_, HB.out⟩
      have h := HO.out
      rw [HT.out] at h
      exact h

end Go.Proofs.YtpdionmecflibaaDoor
