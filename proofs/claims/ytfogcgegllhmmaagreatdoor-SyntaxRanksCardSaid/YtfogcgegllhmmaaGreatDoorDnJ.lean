/-
  What the call dn.write comes to, with spelt and with normal.
-/
import Derived.Test.YtfogcgegllhmmaaGreatDoorDnI
import Derived.Test.YtfogcgegllhmmaaGreatDoorDnF
namespace Go.Proofs.YtfogcgegllhmmaaGreatDoor
open Go.RowKit

def Mt.GoodD (d : List (List Mt.Av)) : Prop := d.length ≤ 32 ∧ ∀ r ∈ d, Mt.GoodR r
theorem Mt.inter_len (sep : List UInt8) (hs : sep.length = 1) (M : Nat) : ∀ (ls : List (List UInt8)), (∀ l ∈ ls, l.length ≤ M) → (sep.intercalate ls).length ≤ ls.length * (M + 1)
  | [], _ => by simp [List.intercalate]
  | [a], h => by
    have := h a (by simp)
    simp [List.intercalate]; omega
  | a :: b :: r, h => by
    have h1 := h a (by simp)
    have h2 := Mt.inter_len sep hs M (b :: r) (fun l hl => h l (List.mem_cons_of_mem _ hl))
    have e : (sep.intercalate (a :: b :: r)) = a ++ sep ++ sep.intercalate (b :: r) := by simp [List.intercalate, List.intersperse]
    rw [e, List.length_append, List.length_append, hs]
    simp only [List.length_cons] at h2 ⊢
    rw [Nat.add_mul (r.length + 1), Nat.one_mul]
    omega
theorem Mt.avL_len {a : Mt.Av} (h : a.1.length ≤ 32 ∧ a.2.length ≤ 4096) : (Mt.avL a).length ≤ 12321 := by
  have := Mt.wrF_len true a.2
  simp only [Mt.avL, List.length_append, List.length_singleton, Mt.wrL]; omega
theorem Mt.spelt_len {r : List Mt.Av} (h : Mt.GoodR r) : ([43].intercalate (Mt.speltL r)).length ≤ 98576 := by
  have := Mt.inter_len [43] rfl 12321 (Mt.speltL r) (fun l hl => by
    simp only [Mt.speltL, List.mem_map] at hl
    obtain ⟨a, ha, rfl⟩ := hl
    exact Mt.avL_len (h.2 a ha))
  have hl : (Mt.speltL r).length ≤ 8 := by simp [Mt.speltL]; exact h.1
  have : (Mt.speltL r).length * (12321 + 1) ≤ 8 * 12322 := Nat.mul_le_mul_right _ hl
  omega
theorem Mt.norm_len {r : List Mt.Av} (h : Mt.GoodR r) : ([43].intercalate (Mt.normL r)).length ≤ 98576 := by
  have := Mt.inter_len [43] rfl 12321 (Mt.normL r) (fun l hl => by
    simp only [Mt.normL, List.mem_mergeSort, List.mem_map] at hl
    obtain ⟨a, ha, rfl⟩ := hl
    have h2 := h.2 a ha
    have h3 := Mt.prep_length a.2
    exact Mt.avL_len ⟨by simp [Mt.plainA, Mt.foldL]; exact h2.1, by simp only [Mt.plainA]; omega⟩)
  have hl : (Mt.normL r).length ≤ 8 := by simp [Mt.normL]; exact h.1
  have : (Mt.normL r).length * (12321 + 1) ≤ 8 * 12322 := Nat.mul_le_mul_right _ hl
  omega

theorem Mt.text_len_spelt {d : List (List Mt.Av)} (h : Mt.GoodD d) : (Mt.textL Mt.speltL d).length ≤ 3154464 := by
  have := Mt.inter_len [44] rfl 98576 (d.map fun r => [43].intercalate (Mt.speltL r)) (fun l hl => by
    simp only [List.mem_map] at hl
    obtain ⟨r, hr, rfl⟩ := hl
    exact Mt.spelt_len (h.2 r hr))
  rw [List.length_map] at this
  have h2 : d.length * (98576 + 1) ≤ 32 * 98577 := Nat.mul_le_mul_right _ h.1
  unfold Mt.textL
  omega
set_option maxRecDepth 100000 in
set_option maxHeartbeats 1000000 in
theorem write_spelt_any {w : World} {v : Value} {d : List (List Mt.Av)} (hv : IsDn w v d) (hg : Mt.GoodD d) :
    Calls Tryz.prog 61 #[v, .func (.func 93) #[] #[]] w fun e w' => e = .returned (.string (Mt.str (Mt.textL Mt.speltL d))) ∧ Below w.heap.size w w' := by
  obtain ⟨i0, hi, hz0, hz1, hz2⟩ := info_parts Tryz.infoStr
  have HI := Lib.hid (And.intro hi (And.intro hz0 (And.intro hz1 hz2)))
  clear hi hz0 hz1 hz2
  obtain ⟨a, cap, rfl, hn, hcap, hcell⟩ := hv
  have HX : Hid (∀ j (hj : j < d.length), ∃ b off, a = some ⟨b, off, none⟩ ∧ ∃ x, IsAvs w x d[j] ∧ ∀ u, Below w.heap.size w u → u.cell? ⟨b, off + j, none⟩ = some x) := by
    intro j hj
    rcases hcell with h | ⟨b, off, h1, h2, h3⟩
    · subst h; simp at hj
    · obtain ⟨x, h4, h5⟩ := h3 j hj
      exact ⟨b, off, h1, x, h5, fun u hu => (hu.cell (p := ⟨b, off + j, none⟩) h2).trans h4⟩
  have HG := Lib.hid hg
  clear hcell hg
  go_enter Tryz.func61, Tryz.ntmps61
  go_wp2_with fail
  go_loopw [5, 10] (fun v i wr => ∃ (k : Nat) (a2 : Option Addr) (c2 : Nat), i = .int .i64 k ∧ v = .slice a2 k c2 ∧ k ≤ d.length ∧ Hid (IsOwn 9 1 w.heap.size wr (.slice a2 k c2) k (txs ((d.map fun r => [43].intercalate (Mt.speltL r)).take k))) ∧ Hid (Below w.heap.size w wr))
    (fun _ i _ => d.length - (intOf i).toNat)
  case atStart => exact ⟨0, none, 0, rfl, rfl, Nat.zero_le _, Lib.hid (IsOwn.nil _ _ _ _), Lib.hid (Below.refl _ _)⟩
  case round =>
    obtain ⟨k, a2, c2, rfl, rfl, hk, HO, HB⟩ := hrel
    by_cases hlt : k < d.length
    · obtain ⟨b, off, rfl, x, hx, hload⟩ := HX.out k hlt
      have hl0 := hload wr HB.out
      have hgr := HG.out.2 _ (List.getElem_mem hlt)
      have HTK : Hid (txs ((d.map fun r => [43].intercalate (Mt.speltL r)).take (k + 1)) = txs ((d.map fun r => [43].intercalate (Mt.speltL r)).take k) ++ [.string (Mt.str ([43].intercalate (Mt.speltL d[k])))]) := Lib.hid (by
        have e : (d.map fun r => [43].intercalate (Mt.speltL r)).take (k + 1) = (d.map fun r => [43].intercalate (Mt.speltL r)).take k ++ [[43].intercalate (Mt.speltL d[k])] := by
          rw [List.take_succ_eq_append_getElem (by simpa using hlt)]; simp
        rw [e, txs_append]; rfl)
      have HPA := Lib.hid (spelt_any (hx.below HB.out) hgr)
      have hln := Mt.spelt_len hgr
      have hn8 : (Mt.speltL d[k]).length ≤ 8 := by simp [Mt.speltL]; exact hgr.1
      have HJ := Lib.hid (fun (u : World) (y : Value) (hy : IsTx u y (Mt.speltL d[k])) => join_any hy [43] (by omega) (by omega))
      have HN := Lib.hid HG.out.1
      have HPU := Lib.hid (fun (u : World) (hu : Below wr.heap.size wr u) => own_push (T := 125) (tx := 125) Tryz.underlying125 Tryz.underlying125 HI.out.1 HI.out.2.1 HI.out.2.2.1 HI.out.2.2.2 rfl (HO.out.below hu) (Nat.le_trans HB.out.size hu.size) (txs_one _) #[.string (Mt.str ([43].intercalate (Mt.speltL d[k])))] rfl (by simp [Value.oneCell']) (by have := HN.out; omega) (by have := HN.out; omega))
      obtain ⟨xa, xc, rfl, _⟩ := hx
      clear hload hgr hcap hln hn8
      go_wp2_with fail
      refine (HPA.out).mono ?_
      rintro e w2 ⟨y, rfl, hy, hb⟩
      have HJ2 := Lib.hid (HJ.out _ _ hy)
      have HB2 := Lib.hid hb
      obtain ⟨ya, yc, rfl, _⟩ := hy
      clear hb
      go_wp2_with fail
      refine (HJ2.out).mono ?_
      rintro e w3 ⟨rfl, hb⟩
      have HB3 := Lib.hid (HB2.out.trans (hb.mono HB2.out.size))
      obtain ⟨a3, c3, w4, hrun, hown, hb4⟩ := HPU.out _ HB3.out
      rw [← HTK.out] at hown
      have HO4 : Hid (IsOwn 9 1 w.heap.size w4 (.slice a3 (k + 1) c3) (k + 1) (txs ((d.map fun r => [43].intercalate (Mt.speltL r)).take (k + 1)))) := Lib.hid hown
      have HB4 := Lib.hid ((HB.out.trans (HB3.out.mono HB.out.size)).trans hb4)
      clear hb hown hb4
      go_wp2_with (refine wpList_append_run rfl _ _ 125 125 rfl _ _ rfl rfl hrun ?_)
      go_roundw
      case rel => exact ⟨k + 1, a3, c3, by go_num, rfl, by omega, HO4, HB4⟩
      case measure => simp [intOf]; omega
    · have HF : Hid ((d.map fun r => [43].intercalate (Mt.speltL r)).take k = d.map fun r => [43].intercalate (Mt.speltL r)) := Lib.hid (by
        rw [List.take_of_length_le (by simp; omega)])
      have hkr : k = d.length := by omega
      rw [HF.out] at HO
      have HT : Hid (IsTx wr (.slice a2 k c2) (d.map fun r => [43].intercalate (Mt.speltL r))) := Lib.hid (IsOwn.tx (base := w.heap.size) (by rw [List.length_map, ← hkr]; exact HO.out))
      have HJ := Lib.hid (join_any HT.out [44] (by have := HG.out.1; rw [List.length_map]; omega) (by have := Mt.text_len_spelt HG.out; unfold Mt.textL at this; omega))
      clear hkr
      go_wp2_with fail
      refine (HJ.out).mono ?_
      rintro e w2 ⟨rfl, hb⟩
      have HB2 := Lib.hid (HB.out.trans (hb.mono HB.out.size))
      clear hb
      go_wp2_with fail
      go_ret
      exact ⟨rfl, HB2.out⟩

theorem Mt.text_len_normal {d : List (List Mt.Av)} (h : Mt.GoodD d) : (Mt.textL Mt.normL d).length ≤ 3154464 := by
  have := Mt.inter_len [44] rfl 98576 (d.map fun r => [43].intercalate (Mt.normL r)) (fun l hl => by
    simp only [List.mem_map] at hl
    obtain ⟨r, hr, rfl⟩ := hl
    exact Mt.norm_len (h.2 r hr))
  rw [List.length_map] at this
  have h2 : d.length * (98576 + 1) ≤ 32 * 98577 := Nat.mul_le_mul_right _ h.1
  unfold Mt.textL
  omega
set_option maxRecDepth 100000 in
set_option maxHeartbeats 1000000 in
theorem write_normal_any {w : World} {v : Value} {d : List (List Mt.Av)} (hv : IsDn w v d) (hg : Mt.GoodD d) :
    Calls Tryz.prog 61 #[v, .func (.func 62) #[] #[]] w fun e w' => e = .returned (.string (Mt.str (Mt.textL Mt.normL d))) ∧ Below w.heap.size w w' := by
  obtain ⟨i0, hi, hz0, hz1, hz2⟩ := info_parts Tryz.infoStr
  have HI := Lib.hid (And.intro hi (And.intro hz0 (And.intro hz1 hz2)))
  clear hi hz0 hz1 hz2
  obtain ⟨a, cap, rfl, hn, hcap, hcell⟩ := hv
  have HX : Hid (∀ j (hj : j < d.length), ∃ b off, a = some ⟨b, off, none⟩ ∧ ∃ x, IsAvs w x d[j] ∧ ∀ u, Below w.heap.size w u → u.cell? ⟨b, off + j, none⟩ = some x) := by
    intro j hj
    rcases hcell with h | ⟨b, off, h1, h2, h3⟩
    · subst h; simp at hj
    · obtain ⟨x, h4, h5⟩ := h3 j hj
      exact ⟨b, off, h1, x, h5, fun u hu => (hu.cell (p := ⟨b, off + j, none⟩) h2).trans h4⟩
  have HG := Lib.hid hg
  clear hcell hg
  go_enter Tryz.func61, Tryz.ntmps61
  go_wp2_with fail
  go_loopw [5, 10] (fun v i wr => ∃ (k : Nat) (a2 : Option Addr) (c2 : Nat), i = .int .i64 k ∧ v = .slice a2 k c2 ∧ k ≤ d.length ∧ Hid (IsOwn 9 1 w.heap.size wr (.slice a2 k c2) k (txs ((d.map fun r => [43].intercalate (Mt.normL r)).take k))) ∧ Hid (Below w.heap.size w wr))
    (fun _ i _ => d.length - (intOf i).toNat)
  case atStart => exact ⟨0, none, 0, rfl, rfl, Nat.zero_le _, Lib.hid (IsOwn.nil _ _ _ _), Lib.hid (Below.refl _ _)⟩
  case round =>
    obtain ⟨k, a2, c2, rfl, rfl, hk, HO, HB⟩ := hrel
    by_cases hlt : k < d.length
    · obtain ⟨b, off, rfl, x, hx, hload⟩ := HX.out k hlt
      have hl0 := hload wr HB.out
      have hgr := HG.out.2 _ (List.getElem_mem hlt)
      have HTK : Hid (txs ((d.map fun r => [43].intercalate (Mt.normL r)).take (k + 1)) = txs ((d.map fun r => [43].intercalate (Mt.normL r)).take k) ++ [.string (Mt.str ([43].intercalate (Mt.normL d[k])))]) := Lib.hid (by
        have e : (d.map fun r => [43].intercalate (Mt.normL r)).take (k + 1) = (d.map fun r => [43].intercalate (Mt.normL r)).take k ++ [[43].intercalate (Mt.normL d[k])] := by
          rw [List.take_succ_eq_append_getElem (by simpa using hlt)]; simp
        rw [e, txs_append]; rfl)
      have HPA := Lib.hid (normal_any (hx.below HB.out) hgr)
      have hln := Mt.norm_len hgr
      have hn8 : (Mt.normL d[k]).length ≤ 8 := by simp [Mt.normL]; exact hgr.1
      have HJ := Lib.hid (fun (u : World) (y : Value) (hy : IsTx u y (Mt.normL d[k])) => join_any hy [43] (by omega) (by omega))
      have HN := Lib.hid HG.out.1
      have HPU := Lib.hid (fun (u : World) (hu : Below wr.heap.size wr u) => own_push (T := 125) (tx := 125) Tryz.underlying125 Tryz.underlying125 HI.out.1 HI.out.2.1 HI.out.2.2.1 HI.out.2.2.2 rfl (HO.out.below hu) (Nat.le_trans HB.out.size hu.size) (txs_one _) #[.string (Mt.str ([43].intercalate (Mt.normL d[k])))] rfl (by simp [Value.oneCell']) (by have := HN.out; omega) (by have := HN.out; omega))
      obtain ⟨xa, xc, rfl, _⟩ := hx
      clear hload hgr hcap hln hn8
      go_wp2_with fail
      refine (HPA.out).mono ?_
      rintro e w2 ⟨y, rfl, hy, hb⟩
      have HJ2 := Lib.hid (HJ.out _ _ hy)
      have HB2 := Lib.hid hb
      obtain ⟨ya, yc, rfl, _⟩ := hy
      clear hb
      go_wp2_with fail
      refine (HJ2.out).mono ?_
      rintro e w3 ⟨rfl, hb⟩
      have HB3 := Lib.hid (HB2.out.trans (hb.mono HB2.out.size))
      obtain ⟨a3, c3, w4, hrun, hown, hb4⟩ := HPU.out _ HB3.out
      rw [← HTK.out] at hown
      have HO4 : Hid (IsOwn 9 1 w.heap.size w4 (.slice a3 (k + 1) c3) (k + 1) (txs ((d.map fun r => [43].intercalate (Mt.normL r)).take (k + 1)))) := Lib.hid hown
      have HB4 := Lib.hid ((HB.out.trans (HB3.out.mono HB.out.size)).trans hb4)
      clear hb hown hb4
      go_wp2_with (refine wpList_append_run rfl _ _ 125 125 rfl _ _ rfl rfl hrun ?_)
      go_roundw
      case rel => exact ⟨k + 1, a3, c3, by go_num, rfl, by omega, HO4, HB4⟩
      case measure => simp [intOf]; omega
    · have HF : Hid ((d.map fun r => [43].intercalate (Mt.normL r)).take k = d.map fun r => [43].intercalate (Mt.normL r)) := Lib.hid (by
        rw [List.take_of_length_le (by simp; omega)])
      have hkr : k = d.length := by omega
      rw [HF.out] at HO
      have HT : Hid (IsTx wr (.slice a2 k c2) (d.map fun r => [43].intercalate (Mt.normL r))) := Lib.hid (IsOwn.tx (base := w.heap.size) (by rw [List.length_map, ← hkr]; exact HO.out))
      have HJ := Lib.hid (join_any HT.out [44] (by have := HG.out.1; rw [List.length_map]; omega) (by have := Mt.text_len_normal HG.out; unfold Mt.textL at this; omega))
      clear hkr
      go_wp2_with fail
      refine (HJ.out).mono ?_
      rintro e w2 ⟨rfl, hb⟩
      have HB2 := Lib.hid (HB.out.trans (hb.mono HB.out.size))
      clear hb
      go_wp2_with fail
      go_ret
      exact ⟨rfl, HB2.out⟩
end Go.Proofs.YtfogcgegllhmmaaGreatDoor
