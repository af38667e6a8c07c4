/-
  What a class wants is put to what is wanted.
-/
import Derived.Test.YthkhicpkkmhfbaaScL
namespace Go.Proofs.Ythkhicpkkmhfbaa
open Go.RowKit

namespace Mt
def addM (k : Int) (M l : List (List UInt8)) : List (List UInt8) := if k = 2 then M ++ l.map foldL else M
def addY (k : Int) (Y l : List (List UInt8)) : List (List UInt8) := if k = 2 then Y else Y ++ l.map foldL
theorem add_step (k : Int) (hk : k = 1 ∨ k = 2) (M Y l : List (List UInt8)) (x g : List UInt8) : val (addM k M (l ++ [x])) (addY k Y (l ++ [x])) g = if g = foldL x then max (val (addM k M l) (addY k Y l) (foldL x)) k else val (addM k M l) (addY k Y l) g := by
  rcases hk with rfl | rfl
  · unfold addM addY
    simp only [show ¬ (1 : Int) = 2 by decide, if_false]
    rw [List.map_append, ← List.append_assoc]
    exact val_may M (Y ++ l.map foldL) (foldL x) g
  · unfold addM addY
    rw [if_pos rfl, if_pos rfl, if_pos rfl, if_pos rfl, List.map_append, ← List.append_assoc]
    exact val_must (M ++ l.map foldL) Y (foldL x) g
theorem addM_nil (k : Int) (M : List (List UInt8)) : addM k M [] = M := by unfold addM; split <;> simp
theorem addY_nil (k : Int) (Y : List (List UInt8)) : addY k Y [] = Y := by unfold addY; split <;> simp
end Mt
theorem onlyOf {S : List Nat} {a b c : World} (h : OnlyS S a b) (h2 : Below b.heap.size b c) : OnlyS S a c := h.trans ⟨h2.os, h2.tape, h2.output, h2.size, fun k hk _ => h2.block k hk⟩
set_option maxRecDepth 100000 in
set_option maxHeartbeats 1000000 in
theorem want_any (k : Int) (hk : k = 1 ∨ k = 2) {w : World} {b n : Nat} {D : DataW Unit} {M Y T l : List (List UInt8)} {v : Value} (hown : w.ownsMap Try.prog 9 intE b n D) (hW : Wm D M Y) (hT : ∀ f, Mt.val M Y f ≠ 0 → f ∈ T) (hTl : T.length ≤ 4398046511104)
    (hv : ∀ u, OnlyS [b] w u → IsNms u v l) (hn : ∀ x ∈ l, x.length ≤ 140737488351232 ∧ Mt.foldL x ∈ T) (hl : l.length ≤ 8796093022208) :
    Calls Try.prog 39 #[.map (some b), .int .i64 k, v] w fun e w' => e = .returned (.tuple #[]) ∧ OnlyS [b] w w' ∧ ∃ n' D', w'.ownsMap Try.prog 9 intE b n' D' ∧ Wm D' (Mt.addM k M l) (Mt.addY k Y l) ∧ ∀ f, Mt.val (Mt.addM k M l) (Mt.addY k Y l) f ≠ 0 → f ∈ T := by
  obtain ⟨a, cap, rfl, -, -⟩ := hv w (OnlyS.refl _ _)
  have HV := Lib.hid hv
  have HN := Lib.hid hn
  have H0 : Hid (w.ownsMap Try.prog 9 intE b n D ∧ Wm D (Mt.addM k M (l.take 0)) (Mt.addY k Y (l.take 0)) ∧ ∀ f, Mt.val (Mt.addM k M (l.take 0)) (Mt.addY k Y (l.take 0)) f ≠ 0 → f ∈ T) := Lib.hid (by
    rw [List.take_zero, Mt.addM_nil, Mt.addY_nil]; exact ⟨hown, hW, hT⟩)
  have HK := Lib.hid hk
  obtain ⟨m, hm⟩ : ∃ m, l.length = m := ⟨_, rfl⟩
  have HM := Lib.hid hm
  have HTK : Hid (l.take m = l) := Lib.hid (by rw [← hm]; exact List.take_length)
  rw [hm] at hl ⊢
  clear hv hn hown hW hT hm
  go_enter Try.func39, Try.ntmps39
  go_wp2_with fail
  go_loopw [11] (fun iv wr => ∃ i : Nat, i ≤ m ∧ iv = .int .i64 (i : Int) ∧ Hid (OnlyS [b] w wr) ∧ Hid (∃ n' D', wr.ownsMap Try.prog 9 intE b n' D' ∧ Wm D' (Mt.addM k M (l.take i)) (Mt.addY k Y (l.take i)) ∧ ∀ f, Mt.val (Mt.addM k M (l.take i)) (Mt.addY k Y (l.take i)) f ≠ 0 → f ∈ T)) (fun iv _ => m - (intOf iv).toNat)
  case atStart => exact ⟨0, Nat.zero_le _, rfl, Lib.hid (OnlyS.refl _ _), Lib.hid ⟨_, _, H0.out⟩⟩
  case round =>
    obtain ⟨i, hi, rfl, HO, HD⟩ := hrel
    by_cases hlt : i < m
    · have hil : i < l.length := by rw [HM.out]; exact hlt
      obtain ⟨n1, D1, hown, hW, hT⟩ := HD.out
      obtain ⟨a', cap', e0, -, hcell⟩ := HV.out wr HO.out
      obtain ⟨bb, off, e1, hbl, hc⟩ := hcell.out i hil
      cases e0
      subst e1
      obtain ⟨x, hx⟩ : ∃ x, l[i] = x := ⟨_, rfl⟩
      have hnx := HN.out _ (List.getElem_mem hil)
      rw [hx] at hc hnx
      have htk : l.take (i + 1) = l.take i ++ [x] := by rw [List.take_succ_eq_append_getElem hil, hx]
      have HSTEP := Lib.hid (fun g => (Mt.add_step k HK.out M Y (l.take i) x g))
      rw [← htk] at HSTEP
      obtain ⟨M1, hM1⟩ : ∃ M1, Mt.addM k M (l.take i) = M1 := ⟨_, rfl⟩
      obtain ⟨Y1, hY1⟩ : ∃ Y1, Mt.addY k Y (l.take i) = Y1 := ⟨_, rfl⟩
      rw [hM1, hY1] at hW hT HSTEP
      have hval := Mt.val_range M1 Y1 (Mt.foldL x)
      have hsz := Wm.size hown hW hT
      have hex := ownsMap_exact13 hown
      have HF := Lib.hid (fold_any (Mt.str x) wr (by rw [Mt.str_size]; omega))
      rw [Mt.str_data] at HF
      have hfx : Mt.str (x.map Mt.sm) = Mt.str (Mt.foldL x) := rfl
      rw [hfx] at HF
      have hkey : keyOf Try.prog 9 (.string (Mt.str (Mt.foldL x))) = some (.string (Mt.foldL x)) := by
        have h1 : (Mt.str (Mt.foldL x)).size ≤ maxLen := by rw [Mt.str_size]; unfold Mt.foldL maxLen; rw [List.length_map]; omega
        have := WideMaps.keyOf_string_mk Try.underlying9 h1
        rwa [Mt.str_data] at this
      have HNX : Hid (∀ (u : World), Below wr.heap.size wr u → (Instr.lookup 67 (.map (some b)) (.string (Mt.str (Mt.foldL x))) false).run Try.prog u = .ok (.int .i64 (Mt.val M1 Y1 (Mt.foldL x))) u ∧ ∃ w', (Instr.mapUpdate 67 (.map (some b)) (.string (Mt.str (Mt.foldL x))) (.int .i64 (max (Mt.val M1 Y1 (Mt.foldL x)) k))).run Try.prog u = .ok () w' ∧ OnlyS [b] w w' ∧ ∃ n' D', w'.ownsMap Try.prog 9 intE b n' D' ∧ Wm D' (Mt.addM k M (l.take (i + 1))) (Mt.addY k Y (l.take (i + 1))) ∧ ∀ f, Mt.val (Mt.addM k M (l.take (i + 1))) (Mt.addY k Y (l.take (i + 1))) f ≠ 0 → f ∈ T) := Lib.hid (fun u hu => by
        have hou := ownsMap_keep13 hex (hu.block b (ownsMap_lt13 hown))
        obtain ⟨c, hrun, hat, hwc⟩ := hou.lookup_int keyLawS Try.underlying67 Try.underlying3 (zeroInt13 u) hkey
        rw [Wm.at hW] at hat
        injection hat with hat
        injection hat with _ hat
        refine ⟨by rw [hat]; exact hrun, ?_⟩
        have hwf : (Lit.int .i64 (max (Mt.val M1 Y1 (Mt.foldL x)) k)).wf = true := WalkArith.wf_i64 (by rcases HK.out with h | h <;> rcases hval with h2 | h2 | h2 <;> rw [h, h2] <;> decide)
        obtain ⟨w', hrun2, ho', hg'⟩ := hou.update keyLawS Try.underlying67 (by unfold maxLen; omega) hkey (plainElem_int Try.underlying3 hwf)
        refine ⟨w', hrun2, (onlyOf HO.out hu).grown (by simp) hg', _, _, ho', ?_, fun f hf => ?_⟩
        · exact hW.put hou.isMap (Mt.foldL x) _ (by rcases HK.out with h | h <;> rcases hval with h2 | h2 | h2 <;> rw [h, h2] <;> decide) HSTEP.out
        · rw [HSTEP.out f] at hf
          by_cases e : f = Mt.foldL x
          · rw [e]; exact hnx.2
          · rw [if_neg e] at hf; exact hT f hf)
      have d1 : decide ((i : Int) < (m : Int)) = true := decide_eq_true (by omega)
      have d2 : decide (i < m) = true := decide_eq_true hlt
      have i0 : (0 : Int) ≤ (i : Int) := by omega
      generalize Mt.str (Mt.foldL x) = FX at *
      generalize Mt.str x = X at *
      obtain ⟨cv, hcv⟩ : ∃ cv, Mt.val M1 Y1 (Mt.foldL x) = cv := ⟨_, rfl⟩
      rw [hcv] at HNX
      clear hcell hbl hx hnx htk HSTEP hM1 hY1 hval hsz hex hfx hkey hown hW hT hil HD hcv
      go_wp2_with fail
      refine (HF.out).mono ?_
      rintro e w2 ⟨rfl, hb⟩
      obtain ⟨hrun1, w3, hrun2, HO3, HD3⟩ := HNX.out w2 hb
      have HO3 := Lib.hid HO3
      have HD3 := Lib.hid HD3
      clear hb hc
      go_wp2_with fail
      go_roundw
      case rel => exact ⟨i + 1, by omega, by go_num, HO3, HD3⟩
      case measure => simp [intOf]; omega
    · obtain rfl : i = m := by omega
      have d1 : decide ((i : Int) < (i : Int)) = false := decide_eq_false (by omega)
      have d2 : decide (i < i) = false := decide_eq_false (by omega)
      have HD2 := HD.out
      rw [HTK.out] at HD2
      have HD3 := Lib.hid HD2
      clear HD2 HD
      go_wp2_with fail
      refine bodyPost_end (results_none rfl _ _ _) rfl ?_
      exact ⟨rfl, HO.out, HD3.out⟩
end Go.Proofs.Ythkhicpkkmhfbaa
