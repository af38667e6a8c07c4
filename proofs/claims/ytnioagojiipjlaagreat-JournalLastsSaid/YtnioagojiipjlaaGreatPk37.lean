/-
  Some texts of one proof, one behind the other.
-/
import Derived.Test.YtnioagojiipjlaaGreatPk18
import Derived.Test.YtnioagojiipjlaaGreatPk30
import Derived.Test.YtnioagojiipjlaaGreatPk36
set_option linter.unusedVariables false
set_option linter.unusedSimpArgs false

/-
  The document's Cells: the sectors of a record.
-/
namespace Go.Proofs.YtnioagojiipjlaaGreat
open Go.RowKit Go.Maps
theorem Mt.ext_min (l : List UInt8) (a E : Nat) (h : a ≤ l.length) (hE : E = min l.length (a + 110)) : (Mt.str l).extract a E = Mt.str ((l.drop a).take 110) := by
  have h1 : E = a + (E - a) := by omega
  rw [h1, Mt.ext_list]
  show Mt.str ((l.drop a).take (E - a)) = _
  congr 1
  by_cases hc : a + 110 ≤ l.length
  · rw [show E - a = 110 by omega]
  · rw [List.take_of_length_le (by rw [List.length_drop]; omega), List.take_of_length_le (by rw [List.length_drop]; omega)]
/-- The first sectors of a record. -/
def Mt.secsTo (gen number : Nat) (b : List UInt8) (k : Nat) : List (List UInt8) := (List.range k).map fun i => (Mt.cellAt gen number b i).sector
theorem Mt.secsTo_succ (gen number : Nat) (b : List UInt8) (k : Nat) : Mt.secsTo gen number b (k + 1) = Mt.secsTo gen number b k ++ [(Mt.cellAt gen number b k).sector] := by
  unfold Mt.secsTo; rw [List.range_succ, List.map_append]; rfl
theorem Mt.secsTo_length (gen number : Nat) (b : List UInt8) (k : Nat) : (Mt.secsTo gen number b k).length = k := by
  unfold Mt.secsTo; rw [List.length_map, List.length_range]
theorem Mt.secsTo_all (gen number : Nat) (b : List UInt8) : Mt.secsTo gen number b (Mt.cellsN b.length) = Mt.secsOf gen number b := rfl
section
variable {w : World}
set_option maxRecDepth 100000 in
set_option maxHeartbeats 1000000 in
theorem rcells_any (gen seq : Nat) (b : List UInt8) (hg : gen < 4294967296) (hs : seq < 4294967296) (hb : b.length ≤ 262144) :
    Calls Tryz.prog 50 #[.int .i64 (gen : Int), .int .i64 (seq : Int), .string (Mt.str b)] w fun e w' => ∃ a c, e = .returned (.slice a (Mt.secsOf gen seq b).length c) ∧ IsOwn 9 1 w.heap.size w' (.slice a (Mt.secsOf gen seq b).length c) (Mt.secsOf gen seq b).length (tcs (Mt.secsOf gen seq b)) ∧ Below w.heap.size w w' := by
  obtain ⟨i0, hi, hz0, hz1, hz2⟩ := info_parts Tryz.infoStr6
  have HI := Lib.hid (And.intro hi (And.intro hz0 (And.intro hz1 hz2)))
  have HND := Lib.hid (fun u => rneed_yes b.length u hb)
  have hsz : (Mt.str b).size = b.length := Mt.str_size b
  have hN : Mt.cellsN b.length ≤ 2384 := by unfold Mt.cellsN; omega
  have hNb : ∀ k, k < Mt.cellsN b.length → 110 * k ≤ b.length := fun k hk => by unfold Mt.cellsN at hk; omega
  have HSE := Lib.hid (fun (k : Nat) (hk : k < Mt.cellsN b.length) (u : World) => rsector_any (Mt.cellAt gen seq b k) ⟨hg, hs, by show k < 65536; omega, by show Mt.cellsN b.length < 65536; omega, by show ((b.drop (110 * k)).take 110).length ≤ 110; rw [List.length_take]; omega⟩ u)
  have HSO := Lib.hid (show Mt.secsTo gen seq b (Mt.cellsN b.length) = Mt.secsOf gen seq b from Mt.secsTo_all gen seq b)
  have HEX := Lib.hid (fun k E hk hE => Mt.ext_min b (110 * k) E (hNb k hk) hE)
  have HNB := Lib.hid hNb
  obtain ⟨n, hnn⟩ : ∃ n, Mt.cellsN b.length = n := ⟨_, rfl⟩
  have HNE := Lib.hid hnn
  rw [hnn] at HND hN hNb HSE HSO HEX HNB
  clear hnn
  have HR0 : Hid (IsOwn 9 1 w.heap.size w (.slice none 0 0) (Mt.secsTo gen seq b 0).length (tcs (Mt.secsTo gen seq b 0)) ∧ Below w.heap.size w w) := Lib.hid ⟨IsOwn.nil _ _ _ _, Below.refl _ _⟩
  have HN := Lib.hid hN
  have HSZ := Lib.hid hsz
  have HBL := Lib.hid hb
  have hszi : ((Mt.str b).size : Int) = (b.length : Int) := by rw [hsz]
  clear hi hz0 hz1 hz2 hg hs hN hNb hsz hb
  go_enter Tryz.func50, Tryz.ntmps50
  go_wp2_with fail
  refine (HND.out _).mono ?_
  rintro e w1 ⟨rfl, rfl⟩
  go_wp2_with fail
  go_loopw [7, 9, 10] (fun vo iv _ wr => ∃ (k : Nat) (a : Option Addr) (c : Nat), k ≤ n ∧ iv = .int .i64 (k : Int) ∧ vo = .slice a k c ∧ Hid (IsOwn 9 1 w.heap.size wr (.slice a k c) k (tcs (Mt.secsTo gen seq b k)) ∧ Below w.heap.size w wr)) (fun _ iv _ _ => n - (intOf iv).toNat)
  case atStart => exact ⟨0, none, 0, Nat.zero_le _, rfl, rfl, HR0⟩
  case round =>
    obtain ⟨k, a, c, hk, rfl, rfl, HRA⟩ := hrel
    by_cases hlt : k < n
    · have hn := HN.out
      have hkb := HNB.out k hlt
      have hbl := HBL.out
      obtain ⟨E, hE⟩ : ∃ E, min b.length (110 * k + 110) = E := ⟨_, rfl⟩
      have hE2 : E ≤ b.length ∧ 110 * k ≤ E := by omega
      have HX := Lib.hid (HEX.out k E hlt hE.symm)
      have HS1 := Lib.hid (HSE.out k hlt)
      unfold Mt.cellAt rclV at HS1
      rw [HNE.out] at HS1
      simp only at HS1
      have d1 : decide ((k : Int) < (n : Int)) = true := decide_eq_true (by omega)
      have d2 : decide (k < n) = true := decide_eq_true hlt
      have m1 : min (b.length : Int) (110 * (k : Int) + 110) = (E : Int) := by omega
      have m2 : wrap64 (110 * (k : Int)) = 110 * (k : Int) := by simp only [wrap64]; omega
      have m3 : wrap64 (110 * (k : Int) + 110) = 110 * (k : Int) + 110 := by simp only [wrap64]; omega
      have e0 : (0 : Int) ≤ 110 * (k : Int) := by omega
      have e1 : 110 * (k : Int) ≤ (E : Int) := by omega
      have e2 : (E : Int) ≤ ((Mt.str b).size : Int) := by rw [hszi]; omega
      have e3 : (110 * (k : Int)).toNat = 110 * k := by omega
      have hk2 : (k : Int) ≤ 2384 := by omega
      clear hkb hn hbl hE hE2
      go_wp2_with fail
      rw [HX.out]
      with_reducible refine (HS1.out _).mono ?_
      rintro e w2 ⟨rfl, hb2⟩
      have hown2 := HRA.out.1.below hb2
      have HB2 := Lib.hid (HRA.out.2.trans (hb2.mono HRA.out.2.size))
      clear hb2
      obtain ⟨a3, c3, w3, hrun, hown, hb3⟩ := own_push (T := 30) (tx := 30) Tryz.underlying30 Tryz.underlying30 HI.out.1 HI.out.2.1 HI.out.2.2.1 HI.out.2.2.2 rfl hown2 HB2.out.size (tcs_one _) #[.string (Mt.str (Mt.cellAt gen seq b k).sector)] rfl (by simp [Value.oneCell']) (by have := HN.out; omega) (by have := HN.out; omega)
      have HO3 := Lib.hid hown
      have HB3 := Lib.hid hb3
      clear hown hb3 hown2
      unfold Mt.cellAt at hrun
      rw [HNE.out] at hrun
      go_wp2_with (refine wpList_append_run rfl _ _ 30 30 rfl _ _ rfl rfl hrun ?_)
      go_roundw
      case rel => exact ⟨k + 1, a3, c3, by omega, by go_num, rfl, Lib.hid ⟨by rw [Mt.secsTo_succ, tcs_append]; exact HO3.out, HB2.out.trans HB3.out⟩⟩
      case measure => simp [intOf]; omega
    · obtain rfl : k = n := by omega
      have d1 : decide ((k : Int) < (k : Int)) = false := decide_eq_false (by omega)
      have d2 : decide (k < k) = false := decide_eq_false (by omega)
      clear hlt
      go_wp2_with fail
      go_ret
      rw [← HSO.out, Mt.secsTo_length]
      exact ⟨a, c, rfl, HRA.out.1, HRA.out.2⟩
end
end Go.Proofs.YtnioagojiipjlaaGreat
