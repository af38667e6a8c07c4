/-
  Some texts of one proof, one behind the other.
-/
import Derived.Test.YtnioagojiipjlaaGreatPk20
import Derived.Test.YtnioagojiipjlaaGreatPk22
set_option linter.unusedVariables false
set_option linter.unusedSimpArgs false

/-
  The document's write: sectors, and a Flush.
-/
namespace Go.Proofs.YtnioagojiipjlaaGreat
open Go.RowKit Go.Maps
/-- Texts in a row that is kept. -/
def TsP (w : World) (g : Rg) (Q : Nat) (v : Value) (ls : List (List UInt8)) : Prop :=
  ∃ a cap, v = .slice a ls.length cap ∧ (ls = [] ∨ ∃ b off, a = some ⟨b, off, none⟩ ∧ b < w.heap.size ∧ (b < g.D ∨ g.P b) ∧ b ≠ g.R ∧ b ≠ g.bl ∧ b ≠ g.bw ∧ b ≠ Q ∧ ∀ j (hj : j < ls.length), w.cell? ⟨b, off + j, none⟩ = some (.string (Mt.str ls[j])))
theorem cell_block {w u : World} {b : Nat} (h : u.heap[b]? = w.heap[b]?) (o : Nat) : u.cell? ⟨b, o, none⟩ = w.cell? ⟨b, o, none⟩ := by
  simp only [World.cell?, h]
theorem TsP.fr {w u : World} {g : Rg} {Q : Nat} {v : Value} {ls : List (List UInt8)} (h : TsP w g Q v ls) (hf : FrQ g Q w u) : TsP u g Q v ls := by
  obtain ⟨a, cap, rfl, h⟩ := h
  refine ⟨a, cap, rfl, h.imp id ?_⟩
  rintro ⟨b, off, rfl, h1, h2, h3, h4, h5, h6, h7⟩
  exact ⟨b, off, rfl, Nat.lt_of_lt_of_le h1 hf.size, h2, h3, h4, h5, h6, fun j hj => (cell_block (hf.block b h2 h1 h3 h4 h5 h6) _).trans (h7 j hj)⟩
theorem TsP.ts {w : World} {g : Rg} {Q : Nat} {v : Value} {ls : List (List UInt8)} (h : TsP w g Q v ls) : ∃ a cap, v = .slice a ls.length cap ∧ Hid (∀ j (hj : j < ls.length), ∃ b off, a = some ⟨b, off, none⟩ ∧ b < w.heap.size ∧ w.cell? ⟨b, off + j, none⟩ = some (.string (Mt.str ls[j]))) := by
  obtain ⟨a, cap, rfl, h⟩ := h
  refine ⟨a, cap, rfl, Lib.hid fun j hj => ?_⟩
  rcases h with rfl | ⟨b, off, h0, h1, h2, h3, h4, h5, h6, h7⟩
  · cases hj
  · exact ⟨b, off, h0, h1, h7 j hj⟩
/-- Sectors, and a Flush. -/
def Mt.wrF (d : Mt.Dk) (a : Nat) (bs : List (List UInt8)) : Mt.Dk × Int := if (Mt.wrS d a bs).2 = 0 then (Mt.wrS d a bs).1.flush else Mt.wrS d a bs
/-- How far write has come. -/
structure WrAt (w wr : World) (Q : Nat) (g : Rg) (t : Nat) (j : Mt.Jn) (sl : Int) (d : Mt.Dk) (a : Nat) (v : Value) (bs : List (List UInt8)) (k : Nat) (d' : Mt.Dk) : Prop where
  qd : QD wr Q g (t + k) j sl d'
  fr : FrQ g Q w wr
  rest : Mt.wrS d a bs = Mt.wrS d' (a + k) (bs.drop k)
  ts : TsP wr g Q v bs
section
variable {w u : World} {Q : Nat} {g : Rg} {t : Nat} {j : Mt.Jn} {sl : Int} {d : Mt.Dk}
theorem QD.shut (h : QD w Q g t j sl d) (z : Bool) : QD (w.setCell ⟨Q, 6, none⟩ (.bool z)) Q g t { j with closed := z } sl d :=
  h.set 6 (.bool z) (n := { j with closed := z }) (sl' := sl) rfl h.half h.head h.gen h.used h.count h.slot
set_option maxRecDepth 100000 in
set_option maxHeartbeats 1000000 in
theorem rwrite_any (h : QD w Q g t j sl d) {v : Value} {bs : List (List UInt8)} (hv : TsP w g Q v bs) (a : Nat) (ht : t + bs.length + 1 < 1000000) (ha : a ≤ 100000) :
    Calls Tryz.prog 51 #[.pointer (some ⟨Q, 0, none⟩), .int .i64 (a : Int), v] w fun e w' => e = .returned (.int .i64 (Mt.wrF d a bs).2) ∧ QD w' Q g (t + bs.length + 1) { j with closed := decide ((Mt.wrF d a bs).2 ≠ 0) } sl (Mt.wrF d a bs).1 ∧ FrQ g Q w w' := by
  have HT := Lib.hid ht
  have HA := Lib.hid ha
  obtain ⟨va, vc, rfl, -⟩ := hv.ts
  have HR0 : Hid (WrAt w w Q g t j sl d a (.slice va bs.length vc) bs 0 d) := Lib.hid ⟨h, FrQ.refl _ _ _, by simp, hv⟩
  obtain ⟨n, hn⟩ : ∃ n, bs.length = n := ⟨_, rfl⟩
  have HN := Lib.hid hn
  rw [hn] at HR0 ⊢
  have hn2 : n < 1000000 := by omega
  have ha2 : (a : Int) ≤ 100000 := by omega
  clear ht ha hv h hn
  go_enter Tryz.func51, Tryz.ntmps51
  go_wp2_with fail
  go_loopw [13, 7, 8, 9] (fun iv _ _ _ wr => ∃ (k : Nat) (d' : Mt.Dk), k ≤ n ∧ iv = .int .i64 (k : Int) ∧ Hid (WrAt w wr Q g t j sl d a (.slice va n vc) bs k d')) (fun iv _ _ _ _ => n - (intOf iv).toNat)
  case atStart => exact ⟨0, d, Nat.zero_le _, rfl, HR0⟩
  case round =>
    obtain ⟨k, d', hk, rfl, HRA⟩ := hrel
    obtain ⟨c0, -, -, -, -, -, -⟩ := HRA.out.qd.jn.cells
    by_cases hlt : k < n
    · have hkb : k < bs.length := by rw [HN.out]; exact hlt
      obtain ⟨va', vc', e, hts⟩ := HRA.out.ts.ts
      injection e with e1 e2 e3
      subst e1
      obtain ⟨b, off, rfl, -, hc⟩ := hts.out k hkb
      have hci : wr.cell? ⟨b, off + k * 1, none⟩ = some (.string (Mt.str bs[k])) := by rw [Nat.mul_one]; exact hc
      have hd : decide ((k : Int) < (n : Int)) = true := decide_eq_true (by omega)
      have hd2 : decide (k < n) = true := decide_eq_true hlt
      have hak : wrap64 ((a : Int) + (k : Int)) = ((a + k : Nat) : Int) := by have := HA.out; simp only [wrap64]; omega
      have HWR : Hid (Calls Tryz.prog 71 #[.pointer (some ⟨g.R, 0, none⟩), .int .i64 ((a : Int) + (k : Int)), .string (Mt.str bs[k])] wr fun e w' => e = .returned (.int .i64 (d'.write ((a + k : Nat) : Int) bs[k]).2) ∧ IsR w' g (t + k + 1) (d'.write ((a + k : Nat) : Int) bs[k]).1 ∧ Fr g wr w') := Lib.hid (by
        have := ewrite_any HRA.out.qd.dk (by have := HT.out; omega) ((a + k : Nat) : Int) (Mt.str bs[k])
        exact this)
      have HST := Lib.hid (show Mt.wrS d a bs = if (d'.write ((a + k : Nat) : Int) bs[k]).2 = 0 then Mt.wrS (d'.write ((a + k : Nat) : Int) bs[k]).1 (a + (k + 1)) (bs.drop (k + 1)) else d'.write ((a + k : Nat) : Int) bs[k] by
        rw [HRA.out.rest, List.drop_eq_getElem_cons hkb]; rfl)
      have HLN := Lib.hid (Mt.write_len d' ((a + k : Nat) : Int) bs[k])
      have HKN : Hid (k < n) := Lib.hid hlt
      have HCI := Lib.hid hci
      clear hts hak
      go_wp2_with fail
      refine (HWR.out).mono ?_
      rintro e w2 ⟨rfl, hir, hfr⟩
      have hqd := HRA.out.qd.disk hir hfr HLN.out
      have HQD := Lib.hid hqd
      have HFR := Lib.hid (HRA.out.fr.trans (hfr.toQ Q))
      have HTS := Lib.hid (HRA.out.ts.fr (hfr.toQ Q))
      have f6 := frozen_of_row _ Q 6 _ _ hqd.jn
      obtain ⟨q0, -, -, -, -, -, q6⟩ := hqd.jn.cells
      clear hir hfr hqd c0
      obtain ⟨d2, E, hde⟩ : ∃ d2 E, d'.write ((a + k : Nat) : Int) bs[k] = (d2, E) := ⟨_, _, rfl⟩
      rw [hde] at HQD HST ⊢
      simp only at HQD HST ⊢
      clear hde
      by_cases hE : E = 0
      · subst hE
        have hst := HST.out
        rw [if_pos rfl] at hst
        have HS2 := Lib.hid hst
        clear hst
        go_wp2_with fail
        go_roundw
        case rel => exact ⟨k + 1, d2, by omega, by go_num, Lib.hid ⟨HQD.out, HFR.out, HS2.out, HTS.out⟩⟩
        case measure => simp [intOf]; omega
      · have hE2 : (E != 0) = true := by simpa using hE
        have hE3 : (E == 0) = false := by simpa using hE
        have hst := HST.out
        rw [if_neg hE] at hst
        have HF : Hid (Mt.wrF d a bs = (d2, E)) := Lib.hid (by unfold Mt.wrF; rw [hst, if_neg hE])
        have HE := Lib.hid hE
        clear hst hE
        go_wp2_with fail
        go_ret
        rw [HF.out]
        refine ⟨rfl, ?_, HFR.out.set 6 _⟩
        have h1 := (HQD.out.shut true).mono (t' := t + n + 1) (by have := HKN.out; omega)
        rw [show decide (E ≠ 0) = true from decide_eq_true HE.out]
        exact h1
    · obtain rfl : k = n := by omega
      have d1 : decide ((k : Int) < (k : Int)) = false := decide_eq_false (by omega)
      have d2 : decide (k < k) = false := decide_eq_false (by omega)
      have HRE := Lib.hid (show Mt.wrS d a bs = (d', 0) by rw [HRA.out.rest, List.drop_of_length_le (by rw [HN.out]; exact Nat.le_refl _)]; rfl)
      have HFL : Hid (Calls Tryz.prog 72 #[.pointer (some ⟨g.R, 0, none⟩)] wr fun e w' => e = .returned (.int .i64 d'.flush.2) ∧ IsR w' g (t + k + 1) d'.flush.1 ∧ Fr g wr w') := Lib.hid (eflush_any HRA.out.qd.dk (by have := HT.out; have := HN.out; omega))
      have HLN := Lib.hid (Mt.flush_len d' HRA.out.qd.dk.ok)
      have HF : Hid (Mt.wrF d a bs = d'.flush) := Lib.hid (by unfold Mt.wrF; rw [HRE.out, if_pos rfl])
      clear hlt
      go_wp2_with fail
      refine (HFL.out).mono ?_
      rintro e w2 ⟨rfl, hir, hfr⟩
      have hqd := HRA.out.qd.disk hir hfr HLN.out
      have HQD := Lib.hid hqd
      have HFR := Lib.hid (HRA.out.fr.trans (hfr.toQ Q))
      have f6 := frozen_of_row _ Q 6 _ _ hqd.jn
      obtain ⟨q0, -, -, -, -, -, q6⟩ := hqd.jn.cells
      clear hir hfr hqd c0
      obtain ⟨d2, E, hde⟩ : ∃ d2 E, d'.flush = (d2, E) := ⟨_, _, rfl⟩
      have HF2 : Hid (Mt.wrF d a bs = (d2, E)) := Lib.hid (HF.out.trans hde)
      rw [hde] at HQD ⊢
      simp only at HQD ⊢
      obtain ⟨z, hz⟩ : ∃ z, decide (E ≠ 0) = z := ⟨_, rfl⟩
      have hE2 : (E != 0) = z := by rw [← hz]; by_cases h : E = 0 <;> simp [h]
      have HZ := Lib.hid hz
      clear hz
      go_wp2_with fail
      go_ret
      rw [HF2.out]
      refine ⟨rfl, ?_, HFR.out.set 6 _⟩
      rw [show decide ((d2, E).2 ≠ 0) = z from HZ.out]
      exact HQD.out.shut z
end
end Go.Proofs.YtnioagojiipjlaaGreat
