/-
  Some texts of one proof, one behind the other.
-/
import Derived.Test.YtngdbhncafnliaaGreatPk18
import Derived.Test.YtngdbhncafnliaaGreatPk24
set_option linter.unusedVariables false
set_option linter.unusedSimpArgs false

/-
  What the call dn.write comes to, with spelt and with normal.
-/
namespace Go.Proofs.YtngdbhncafnliaaGreat
open Go.RowKit

def Mt.GoodD (d : List (List Mt.Av)) : Prop := d.length ≤ 32 ∧ ∀ r ∈ d, Mt.GoodR r
theorem Mt.inter_len (sep : List UInt8) (hs : sep.length = 1) (M : Nat) : ∀ (ls : List (List UInt8)), (∀ l ∈ ls, l.length ≤ M) → (sep.intercalate ls).length ≤ ls.length * (M + 1)
  | [], _ => by simp [List.intercalate]
  | [a], h => by
    have := h a (by simp)
    simp [List.intercalate]; omega
  | a :: b :: r, h => by
    have h1 := h a (by simp)
    have h2 := Mt.inter_len sep hs M (b :: r) (fun l hl => h l (List.mem_cons_of_mem _ hl))
    have e : (sep.intercalate (a :: b :: r)) = a ++ sep ++ sep.intercalate (b :: r) := by simp [List.intercalate, List.intersperse]
    rw [e, List.length_append, List.length_append, hs]
    simp only [List.length_cons] at h2 ⊢
    rw [Nat.add_mul (r.length + 1), Nat.one_mul]
    omega
theorem Mt.avL_len {a : Mt.Av} (h : a.1.length ≤ 32 ∧ a.2.length ≤ 4096) : (Mt.avL a).length ≤ 12321 := by
  have := Mt.wrF_len true a.2
  simp only [Mt.avL, List.length_append, List.length_singleton, Mt.wrL]; omega
theorem Mt.spelt_len {r : List Mt.Av} (h : Mt.GoodR r) : ([43].intercalate (Mt.speltL r)).length ≤ 98576 := by
  have := Mt.inter_len [43] rfl 12321 (Mt.speltL r) (fun l hl => by
    simp only [Mt.speltL, List.mem_map] at hl
    obtain ⟨a, ha, rfl⟩ := hl
    exact Mt.avL_len (h.2 a ha))
  have hl : (Mt.speltL r).length ≤ 8 := by simp [Mt.speltL]; exact h.1
  have : (Mt.speltL r).length * (12321 + 1) ≤ 8 * 12322 := Nat.mul_le_mul_right _ hl
  omega
theorem Mt.norm_len {r : List Mt.Av} (h : Mt.GoodR r) : ([43].intercalate (Mt.normL r)).length ≤ 98576 := by
  have := Mt.inter_len [43] rfl 12321 (Mt.normL r) (fun l hl => by
    simp only [Mt.normL, List.mem_mergeSort, List.mem_map] at hl
    obtain ⟨a, ha, rfl⟩ := hl
    have h2 := h.2 a ha
    have h3 := Mt.prep_length a.2
    exact Mt.avL_len ⟨by simp [Mt.plainA, Mt.foldL]; exact h2.1, by simp only [Mt.plainA]; omega⟩)
  have hl : (Mt.normL r).length ≤ 8 := by simp [Mt.normL]; exact h.1
  have : (Mt.normL r).length * (12321 + 1) ≤ 8 * 12322 := Nat.mul_le_mul_right _ hl
  omega

theorem Mt.text_len_spelt {d : List (List Mt.Av)} (h : Mt.GoodD d) : (Mt.textL Mt.speltL d).length ≤ 3154464 := by
  have := Mt.inter_len [44] rfl 98576 (d.map fun r => [43].intercalate (Mt.speltL r)) (fun l hl => by
    simp only [List.mem_map] at hl
    obtain ⟨r, hr, rfl⟩ := hl
    exact Mt.spelt_len (h.2 r hr))
  rw [List.length_map] at this
  have h2 : d.length * (98576 + 1) ≤ 32 * 98577 := Nat.mul_le_mul_right _ h.1
  unfold Mt.textL
  omega
set_option maxRecDepth 100000 in
set_option maxHeartbeats 1000000 in
theorem write_spelt_any {w : World} {v : Value} {d : List (List Mt.Av)} (hv : IsDn w v d) (hg : Mt.GoodD d) :
    Calls Tryz.prog 37 #[v, .func (.func 57) #[] #[]] w fun e w' => e = .returned (.string (Mt.str (Mt.textL Mt.speltL d))) ∧ Below w.heap.size w w' := by
  obtain ⟨i0, hi, hz0, hz1, hz2⟩ := info_parts Tryz.infoStr
  have HI := Lib.hid (And.intro hi (And.intro hz0 (And.intro hz1 hz2)))
  clear hi hz0 hz1 hz2
  obtain ⟨a, cap, rfl, hn, hcap, hcell⟩ := hv
  have HX : Hid (∀ j (hj : j < d.length), ∃ b off, a = some ⟨b, off, none⟩ ∧ ∃ x, IsAvs w x d[j] ∧ ∀ u, Below w.heap.size w u → u.cell? ⟨b, off + j, none⟩ = some x) := by
    intro j hj
    rcases hcell with h | ⟨b, off, h1, h2, h3⟩
    · subst h; simp at hj
    · obtain ⟨x, h4, h5⟩ := h3 j hj
      exact ⟨b, off, h1, x, h5, fun u hu => (hu.cell (p := ⟨b, off + j, none⟩) h2).trans h4⟩
  have HG := Lib.hid hg
  clear hcell hg
  go_enter Tryz.func37, Tryz.ntmps37
  go_wp2_with fail
  go_loopw [5, 10] (fun v i wr => ∃ (k : Nat) (a2 : Option Addr) (c2 : Nat), i = .int .i64 k ∧ v = .slice a2 k c2 ∧ k ≤ d.length ∧ Hid (IsOwn 9 1 w.heap.size wr (.slice a2 k c2) k (txs ((d.map fun r => [43].intercalate (Mt.speltL r)).take k))) ∧ Hid (Below w.heap.size w wr))
    (fun _ i _ => d.length - (intOf i).toNat)
  case atStart => exact ⟨0, none, 0, rfl, rfl, Nat.zero_le _, Lib.hid (IsOwn.nil _ _ _ _), Lib.hid (Below.refl _ _)⟩
  case round =>
    obtain ⟨k, a2, c2, rfl, rfl, hk, HO, HB⟩ := hrel
    by_cases hlt : k < d.length
    · obtain ⟨b, off, rfl, x, hx, hload⟩ := HX.out k hlt
      have hl0 := hload wr HB.out
      have hgr := HG.out.2 _ (List.getElem_mem hlt)
      have HTK : Hid (txs ((d.map fun r => [43].intercalate (Mt.speltL r)).take (k + 1)) = txs ((d.map fun r => [43].intercalate (Mt.speltL r)).take k) ++ [.string (Mt.str ([43].intercalate (Mt.speltL d[k])))]) := Lib.hid (by
        have e : (d.map fun r => [43].intercalate (Mt.speltL r)).take (k + 1) = (d.map fun r => [43].intercalate (Mt.speltL r)).take k ++ [[43].intercalate (Mt.speltL d[k])] := by
          rw [List.take_succ_eq_append_getElem (by simpa using hlt)]; simp
        rw [e, txs_append]; rfl)
      have HPA := Lib.hid (spelt_any (hx.below HB.out) hgr)
      have hln := Mt.spelt_len hgr
      have hn8 : (Mt.speltL d[k]).length ≤ 8 := by simp [Mt.speltL]; exact hgr.1
      have HJ := Lib.hid (fun (u : World) (y : Value) (hy : IsTx u y (Mt.speltL d[k])) => join_any hy [43] (by omega) (by omega))
      have HN := Lib.hid HG.out.1
      have HPU := Lib.hid (fun (u : World) (hu : Below wr.heap.size wr u) => own_push (T := 47) (tx := 47) Tryz.underlying47 Tryz.underlying47 HI.out.1 HI.out.2.1 HI.out.2.2.1 HI.out.2.2.2 rfl (HO.out.below hu) (Nat.le_trans HB.out.size hu.size) (txs_one _) #[.string (Mt.str ([43].intercalate (Mt.speltL d[k])))] rfl (by simp [Value.oneCell']) (by have := HN.out; omega) (by have := HN.out; omega))
      obtain ⟨xa, xc, rfl, _⟩ := hx
      clear hload hgr hcap hln hn8
      go_wp2_with fail
      refine (HPA.out).mono ?_
      rintro e w2 ⟨y, rfl, hy, hb⟩
      have HJ2 := Lib.hid (HJ.out _ _ hy)
      have HB2 := Lib.hid hb
      obtain ⟨ya, yc, rfl, _⟩ := hy
      clear hb
      go_wp2_with fail
      refine (HJ2.out).mono ?_
      rintro e w3 ⟨rfl, hb⟩
      have HB3 := Lib.hid (HB2.out.trans (hb.mono HB2.out.size))
      obtain ⟨a3, c3, w4, hrun, hown, hb4⟩ := HPU.out _ HB3.out
      rw [← HTK.out] at hown
      have HO4 : Hid (IsOwn 9 1 w.heap.size w4 (.slice a3 (k + 1) c3) (k + 1) (txs ((d.map fun r => [43].intercalate (Mt.speltL r)).take (k + 1)))) := Lib.hid hown
      have HB4 := Lib.hid ((HB.out.trans (HB3.out.mono HB.out.size)).trans hb4)
      clear hb hown hb4
      go_wp2_with (refine wpList_append_run rfl _ _ 47 47 rfl _ _ rfl rfl hrun ?_)
      go_roundw
      case rel => exact ⟨k + 1, a3, c3, by go_num, rfl, by omega, HO4, HB4⟩
      case measure => simp [intOf]; omega
    · have HF : Hid ((d.map fun r => [43].intercalate (Mt.speltL r)).take k = d.map fun r => [43].intercalate (Mt.speltL r)) := Lib.hid (by
        rw [List.take_of_length_le (by simp; omega)])
      have hkr : k = d.length := by omega
      rw [HF.out] at HO
      have HT : Hid (IsTx wr (.slice a2 k c2) (d.map fun r => [43].intercalate (Mt.speltL r))) := Lib.hid (IsOwn.tx (base := w.heap.size) (by rw [List.length_map, ← hkr]; exact HO.out))
      have HJ := Lib.hid (join_any HT.out [44] (by have := HG.out.1; rw [List.length_map]; omega) (by have := Mt.text_len_spelt HG.out; unfold Mt.textL at this; omega))
      clear hkr
      go_wp2_with fail
      refine (HJ.out).mono ?_
      rintro e w2 ⟨rfl, hb⟩
      have HB2 := Lib.hid (HB.out.trans (hb.mono HB.out.size))
      clear hb
      go_wp2_with fail
      go_ret
      exact ⟨rfl, HB2.out⟩

theorem Mt.text_len_normal {d : List (List Mt.Av)} (h : Mt.GoodD d) : (Mt.textL Mt.normL d).length ≤ 3154464 := by
  have := Mt.inter_len [44] rfl 98576 (d.map fun r => [43].intercalate (Mt.normL r)) (fun l hl => by
    simp only [List.mem_map] at hl
    obtain ⟨r, hr, rfl⟩ := hl
    exact Mt.norm_len (h.2 r hr))
  rw [List.length_map] at this
  have h2 : d.length * (98576 + 1) ≤ 32 * 98577 := Nat.mul_le_mul_right _ h.1
  unfold Mt.textL
  omega
set_option maxRecDepth 100000 in
set_option maxHeartbeats 1000000 in
theorem write_normal_any {w : World} {v : Value} {d : List (List Mt.Av)} (hv : IsDn w v d) (hg : Mt.GoodD d) :
    Calls Tryz.prog 37 #[v, .func (.func 38) #[] #[]] w fun e w' => e = .returned (.string (Mt.str (Mt.textL Mt.normL d))) ∧ Below w.heap.size w w' := by
  obtain ⟨i0, hi, hz0, hz1, hz2⟩ := info_parts Tryz.infoStr
  have HI := Lib.hid (And.intro hi (And.intro hz0 (And.intro hz1 hz2)))
  clear hi hz0 hz1 hz2
  obtain ⟨a, cap, rfl, hn, hcap, hcell⟩ := hv
  have HX : Hid (∀ j (hj : j < d.length), ∃ b off, a = some ⟨b, off, none⟩ ∧ ∃ x, IsAvs w x d[j] ∧ ∀ u, Below w.heap.size w u → u.cell? ⟨b, off + j, none⟩ = some x) := by
    intro j hj
    rcases hcell with h | ⟨b, off, h1, h2, h3⟩
    · subst h; simp at hj
    · obtain ⟨x, h4, h5⟩ := h3 j hj
      exact ⟨b, off, h1, x, h5, fun u hu => (hu.cell (p := ⟨b, off + j, none⟩) h2).trans h4⟩
  have HG := Lib.hid hg
  clear hcell hg
  go_enter Tryz.func37, Tryz.ntmps37
  go_wp2_with fail
  go_loopw [5, 10] (fun v i wr => ∃ (k : Nat) (a2 : Option Addr) (c2 : Nat), i = .int .i64 k ∧ v = .slice a2 k c2 ∧ k ≤ d.length ∧ Hid (IsOwn 9 1 w.heap.size wr (.slice a2 k c2) k (txs ((d.map fun r => [43].intercalate (Mt.normL r)).take k))) ∧ Hid (Below w.heap.size w wr))
    (fun _ i _ => d.length - (intOf i).toNat)
  case atStart => exact ⟨0, none, 0, rfl, rfl, Nat.zero_le _, Lib.hid (IsOwn.nil _ _ _ _), Lib.hid (Below.refl _ _)⟩
  case round =>
    obtain ⟨k, a2, c2, rfl, rfl, hk, HO, HB⟩ := hrel
    by_cases hlt : k < d.length
    · obtain ⟨b, off, rfl, x, hx, hload⟩ := HX.out k hlt
      have hl0 := hload wr HB.out
      have hgr := HG.out.2 _ (List.getElem_mem hlt)
      have HTK : Hid (txs ((d.map fun r => [43].intercalate (Mt.normL r)).take (k + 1)) = txs ((d.map fun r => [43].intercalate (Mt.normL r)).take k) ++ [.string (Mt.str ([43].intercalate (Mt.normL d[k])))]) := Lib.hid (by
        have e : (d.map fun r => [43].intercalate (Mt.normL r)).take (k + 1) = (d.map fun r => [43].intercalate (Mt.normL r)).take k ++ [[43].intercalate (Mt.normL d[k])] := by
          rw [List.take_succ_eq_append_getElem (by simpa using hlt)]; simp
        rw [e, txs_append]; rfl)
      have HPA := Lib.hid (normal_any (hx.below HB.out) hgr)
      have hln := Mt.norm_len hgr
      have hn8 : (Mt.normL d[k]).length ≤ 8 := by simp [Mt.normL]; exact hgr.1
      have HJ := Lib.hid (fun (u : World) (y : Value) (hy : IsTx u y (Mt.normL d[k])) => join_any hy [43] (by omega) (by omega))
      have HN := Lib.hid HG.out.1
      have HPU := Lib.hid (fun (u : World) (hu : Below wr.heap.size wr u) => own_push (T := 47) (tx := 47) Tryz.underlying47 Tryz.underlying47 HI.out.1 HI.out.2.1 HI.out.2.2.1 HI.out.2.2.2 rfl (HO.out.below hu) (Nat.le_trans HB.out.size hu.size) (txs_one _) #[.string (Mt.str ([43].intercalate (Mt.normL d[k])))] rfl (by simp [Value.oneCell']) (by have := HN.out; omega) (by have := HN.out; omega))
      obtain ⟨xa, xc, rfl, _⟩ := hx
      clear hload hgr hcap hln hn8
      go_wp2_with fail
      refine (HPA.out).mono ?_
      rintro e w2 ⟨y, rfl, hy, hb⟩
      have HJ2 := Lib.hid (HJ.out _ _ hy)
      have HB2 := Lib.hid hb
      obtain ⟨ya, yc, rfl, _⟩ := hy
      clear hb
      go_wp2_with fail
      refine (HJ2.out).mono ?_
      rintro e w3 ⟨rfl, hb⟩
      have HB3 := Lib.hid (HB2.out.trans (hb.mono HB2.out.size))
      obtain ⟨a3, c3, w4, hrun, hown, hb4⟩ := HPU.out _ HB3.out
      rw [← HTK.out] at hown
      have HO4 : Hid (IsOwn 9 1 w.heap.size w4 (.slice a3 (k + 1) c3) (k + 1) (txs ((d.map fun r => [43].intercalate (Mt.normL r)).take (k + 1)))) := Lib.hid hown
      have HB4 := Lib.hid ((HB.out.trans (HB3.out.mono HB.out.size)).trans hb4)
      clear hb hown hb4
      go_wp2_with (refine wpList_append_run rfl _ _ 47 47 rfl _ _ rfl rfl hrun ?_)
      go_roundw
      case rel => exact ⟨k + 1, a3, c3, by go_num, rfl, by omega, HO4, HB4⟩
      case measure => simp [intOf]; omega
    · have HF : Hid ((d.map fun r => [43].intercalate (Mt.normL r)).take k = d.map fun r => [43].intercalate (Mt.normL r)) := Lib.hid (by
        rw [List.take_of_length_le (by simp; omega)])
      have hkr : k = d.length := by omega
      rw [HF.out] at HO
      have HT : Hid (IsTx wr (.slice a2 k c2) (d.map fun r => [43].intercalate (Mt.normL r))) := Lib.hid (IsOwn.tx (base := w.heap.size) (by rw [List.length_map, ← hkr]; exact HO.out))
      have HJ := Lib.hid (join_any HT.out [44] (by have := HG.out.1; rw [List.length_map]; omega) (by have := Mt.text_len_normal HG.out; unfold Mt.textL at this; omega))
      clear hkr
      go_wp2_with fail
      refine (HJ.out).mono ?_
      rintro e w2 ⟨rfl, hb⟩
      have HB2 := Lib.hid (HB.out.trans (hb.mono HB.out.size))
      clear hb
      go_wp2_with fail
      go_ret
      exact ⟨rfl, HB2.out⟩
end Go.Proofs.YtngdbhncafnliaaGreat

/-
  What the calls dn.askRDN and ask come to.
-/
namespace Go.Proofs.YtngdbhncafnliaaGreat
open Go.RowKit

set_option maxRecDepth 100000 in
theorem ask1_any (a : Mt.Av) (w : World) :
    Calls Tryz.prog 72 #[avV a] w fun e w' => e = .returned (.bool (decide (4096 < a.2.length))) ∧ Below w.heap.size w w' := by
  have hs : (Mt.str a.2).size = a.2.length := Mt.str_size _
  obtain ⟨z, hz⟩ : ∃ z, decide ((4096 : Int) < ((Mt.str a.2).size : Int)) = z := ⟨_, rfl⟩
  have HZ : Hid (decide (4096 < a.2.length) = z) := Lib.hid (by rw [← hz, hs, Bool.eq_iff_iff]; simp only [decide_eq_true_eq]; omega)
  have hb0 := (Below.refl w.heap.size w).alloc (Nat.le_refl _) (.cells #[.string (Mt.str a.1), .string (Mt.str a.2)] 87)
  have HA := Lib.hid hb0
  obtain ⟨p1, p2⟩ := box2_of (heap_alloc_new w (.cells #[.string (Mt.str a.1), .string (Mt.str a.2)] 87))
  rw [HZ.out]
  unfold avV
  clear hb0 hs HZ
  go_enter Tryz.func72, Tryz.ntmps72
  go_wp2_with fail
  go_ret
  exact ⟨rfl, HA.out⟩

set_option maxRecDepth 100000 in
theorem indexAsk_any {w : World} {v : Value} {r : List Mt.Av} (hv : IsAvs w v r)  :
    ∃ k : Int, decide (0 ≤ k) = r.any (fun a => decide (4096 < a.2.length)) ∧ Calls Tryz.prog 86 #[v, .func (.func 72) #[] #[]] w fun e w' => e = .returned (.int .i64 k) ∧ Below w.heap.size w w' := by
  obtain ⟨a, cap, rfl, hn, hcap, hcell⟩ := hv
  obtain ⟨k, hk, hd⟩ : ∃ k : Int, decide (0 ≤ k) = r.any (fun a => decide (4096 < a.2.length)) ∧ ((k = -1 ∧ ∀ j (hj : j < r.length), decide (4096 < r[j].2.length) = false) ∨ ∃ m : Nat, k = m ∧ ∃ hm : m < r.length, decide (4096 < r[m].2.length) = true ∧ ∀ j (hj : j < m), decide (4096 < (r[j]'(by omega)).2.length) = false) := by
    cases hf : r.findIdx? (fun a => decide (4096 < a.2.length)) with
    | none =>
      rw [List.findIdx?_eq_none_iff] at hf
      refine ⟨-1, ?_, .inl ⟨rfl, fun j hj => hf _ (List.getElem_mem hj)⟩⟩
      have : r.any (fun a => decide (4096 < a.2.length)) = false := by
        rw [List.any_eq_false]; intro x hx; have := hf x hx; simpa using this
      rw [this]; rfl
    | some m =>
      rw [List.findIdx?_eq_some_iff_getElem] at hf
      obtain ⟨hm, h1, h2⟩ := hf
      refine ⟨m, ?_, .inr ⟨m, rfl, hm, h1, fun j hj => by have := h2 j hj; simpa using this⟩⟩
      have : r.any (fun a => decide (4096 < a.2.length)) = true := by
        rw [List.any_eq_true]; exact ⟨_, List.getElem_mem hm, h1⟩
      rw [this]; simp
  refine ⟨k, hk, ?_⟩
  have HD := Lib.hid hd
  clear hk hd
  have HX : Hid (∀ j (hj : j < r.length), ∃ b off, a = some ⟨b, off, none⟩ ∧ ∀ u, Below w.heap.size w u → u.cell? ⟨b, off + j * 2, none⟩ = some (.string (Mt.str r[j].1)) ∧ u.cell? ⟨b, off + j * 2 + 1, none⟩ = some (.string (Mt.str r[j].2))) := by
    intro j hj
    rcases hcell with h | ⟨b, off, h1, h2, h3⟩
    · subst h; simp at hj
    · exact ⟨b, off, h1, fun u hu => ⟨(hu.cell (p := ⟨b, off + j * 2, none⟩) h2).trans (h3 j hj).1, (hu.cell (p := ⟨b, off + j * 2 + 1, none⟩) h2).trans (h3 j hj).2⟩⟩
  clear hcell
  go_enter Tryz.func86, Tryz.ntmps86
  go_wp2_with fail
  go_loopw [8] (fun i wr => ∃ m : Nat, m ≤ r.length ∧ i = .int .i64 m ∧ Hid (∀ j (hj : j < r.length), j < m → decide (4096 < r[j].2.length) = false) ∧ Hid (Below w.heap.size w wr))
    (fun i _ => r.length - (intOf i).toNat)
  case atStart => exact ⟨0, Nat.zero_le _, rfl, Lib.hid fun j _ h => absurd h (Nat.not_lt_zero _), Lib.hid (Below.refl _ _)⟩
  case round =>
    obtain ⟨m, hm, rfl, HO, HB⟩ := hrel
    by_cases hlt : m < r.length
    · obtain ⟨b, off, rfl, hload⟩ := HX.out m hlt
      obtain ⟨hl0, hl1⟩ := hload wr HB.out
      have HP := Lib.hid (ask1_any r[m] wr)
      obtain ⟨q, hq⟩ : ∃ q, decide (4096 < r[m].2.length) = q := ⟨_, rfl⟩
      rw [hq] at HP
      have HQ := Lib.hid hq
      have HH : Hid (q = true → k = m) := Lib.hid (by
        intro h
        rcases HD.out with ⟨_, h2⟩ | ⟨m2, rfl, hm2, h3, h4⟩
        · have := h2 m hlt; rw [HQ.out, h] at this; cases this
        · by_cases e : m2 = m
          · rw [e]
          · rcases Nat.lt_or_ge m2 m with h5 | h5
            · have := HO.out m2 hm2 h5; rw [h3] at this; cases this
            · have := h4 m (by omega); rw [HQ.out, h] at this; cases this)
      have HO2 : Hid (q = false → ∀ j (hj : j < r.length), j < m + 1 → decide (4096 < r[j].2.length) = false) := Lib.hid (by
        intro h j hj hlt2
        by_cases e : j = m
        · subst e; rw [HQ.out, h]
        · exact HO.out j hj (by omega))
      clear hq hload
      go_wp2_with fail
      refine (HP.out).mono ?_
      rintro e w2 ⟨rfl, hb⟩
      have HB2 := Lib.hid (HB.out.trans (hb.mono HB.out.size))
      clear hb
      cases q
      · go_wp2_with fail
        go_roundw
        case rel => exact ⟨m + 1, by omega, by go_num, Lib.hid (HO2.out (by first | rfl | trivial)), HB2⟩
        case measure => simp [intOf]; omega
      · go_wp2_with fail
        go_ret
        exact ⟨Mt.ret_int (HH.out (by first | rfl | trivial)).symm, HB2.out⟩
    · have HH : Hid (k = -1) := Lib.hid (by
        rcases HD.out with ⟨h1, _⟩ | ⟨m2, rfl, hm2, h3, h4⟩
        · exact h1
        · have := HO.out m2 hm2 (by omega); rw [h3] at this; cases this)
      go_wp2_with fail
      go_ret
      exact ⟨Mt.ret_int HH.out.symm, HB.out⟩

theorem containsAsk_any {w : World} {v : Value} {r : List Mt.Av} (hv : IsAvs w v r)  :
    Calls Tryz.prog 71 #[v, .func (.func 72) #[] #[]] w fun e w' => e = .returned (.bool (r.any (fun a => decide (4096 < a.2.length)))) ∧ Below w.heap.size w w' := by
  obtain ⟨k, hk, hcall⟩ := indexAsk_any hv
  obtain ⟨a, cap, rfl, _⟩ := hv
  have H := Lib.hid hcall
  rw [← hk]
  obtain ⟨q, hq⟩ : ∃ q, decide (0 ≤ k) = q := ⟨_, rfl⟩
  rw [hq]
  clear hcall hk
  go_enter Tryz.func71, Tryz.ntmps71
  go_wp2_with fail
  refine (H.out).mono ?_
  rintro e w' ⟨rfl, hb⟩
  have HB := Lib.hid hb
  clear hb
  go_wp2_with fail
  go_ret
  exact ⟨rfl, HB.out⟩

end Go.Proofs.YtngdbhncafnliaaGreat

/-
  What the calls dn.askRDN and ask come to.
-/
namespace Go.Proofs.YtngdbhncafnliaaGreat
open Go.RowKit

theorem Mt.drop_av (r : List Mt.Av) (k : Nat) (h : k < r.length) : r.drop k = r[k] :: r.drop (k + 1) := List.drop_eq_getElem_cons h

set_option maxRecDepth 100000 in
set_option maxHeartbeats 1000000 in
theorem askRDN_any {w : World} {v : Value} {r : List Mt.Av} (hv : IsAvs w v r) :
    Calls Tryz.prog 70 #[v] w fun e w' => e = .returned (.int .i64 (Mt.askR r)) ∧ Below w.heap.size w w' := by
  obtain ⟨a, cap, rfl, hn, hcap, hcell⟩ := hv
  by_cases h0 : r = []
  · subst h0
    have : Mt.askR [] = 2 := rfl
    rw [this]
    clear hcell hcap hn
    go_enter Tryz.func70, Tryz.ntmps70
    go_wp2_with fail
    go_ret
    exact ⟨rfl, Below.refl _ _⟩
  · obtain ⟨R, hR⟩ : ∃ R, Mt.askR r = R := ⟨_, rfl⟩
    have HR0 : Hid (Mt.askA r 0 r = R) := Lib.hid (by rw [← hR]; unfold Mt.askR; rw [if_neg h0])
    rw [hR]
    have hne : ((r.length : Int) == 0) = false := by
      have : r.length ≠ 0 := fun h => h0 (List.eq_nil_of_length_eq_zero h)
      simp; omega
    have HV : Hid (∀ k, k ≤ r.length → ∀ u, Below w.heap.size w u → IsAvs u (.slice a k cap) (r.take k)) := Lib.hid (by
      intro k hk u hu
      obtain ⟨a1, cap1, h1, h2⟩ := (IsAvs.below (v := .slice a r.length cap) ⟨a, cap, rfl, hn, hcap, hcell⟩ hu).take k hk
      cases h1; exact h2)
    have HX : Hid (∀ j (hj : j < r.length), ∃ b off, a = some ⟨b, off, none⟩ ∧ ∀ u, Below w.heap.size w u → u.cell? ⟨b, off + j * 2, none⟩ = some (.string (Mt.str r[j].1)) ∧ u.cell? ⟨b, off + j * 2 + 1, none⟩ = some (.string (Mt.str r[j].2))) := by
      intro j hj
      rcases hcell with h | ⟨b, off, h1, h2, h3⟩
      · subst h; simp at hj
      · exact ⟨b, off, h1, fun u hu => ⟨(hu.cell (p := ⟨b, off + j * 2, none⟩) h2).trans (h3 j hj).1, (hu.cell (p := ⟨b, off + j * 2 + 1, none⟩) h2).trans (h3 j hj).2⟩⟩
    have HC := Lib.hid hcap
    clear hcell h0 hR hcap
    go_enter Tryz.func70, Tryz.ntmps70
    go_wp2_with fail
    go_loopw [10] (fun i wr => ∃ (k : Nat), i = .int .i64 k ∧ k ≤ r.length ∧ k ≤ 8 ∧ Hid (Mt.askA r k (r.drop k) = R) ∧ Hid (∀ a ∈ r.take k, a.1.length ≤ 32) ∧ Hid (Below w.heap.size w wr))
      (fun i _ => r.length - (intOf i).toNat)
    case atStart => exact ⟨0, rfl, Nat.zero_le _, by omega, HR0, Lib.hid (by simp), Lib.hid (Below.refl _ _)⟩
    case round =>
      obtain ⟨k, rfl, hk, hk8, HR, HT, HB⟩ := hrel
      by_cases hlt : k < r.length
      · obtain ⟨b, off, rfl, hload⟩ := HX.out k hlt
        obtain ⟨hl0, hl1⟩ := hload wr HB.out
        have HD := Lib.hid (Mt.drop_av r k hlt)
        obtain ⟨av, hav⟩ : ∃ av, r[k] = av := ⟨_, rfl⟩
        rw [hav] at hl0 hl1 HD
        have hb0 := (Below.refl wr.heap.size wr).alloc (Nat.le_refl _) (.cells #[.string (Mt.str av.1), .string (Mt.str av.2)] 87)
        have HBx := Lib.hid (HB.out.trans (hb0.mono HB.out.size))
        obtain ⟨p1, p2⟩ := box2_of (heap_alloc_new wr (.cells #[.string (Mt.str av.1), .string (Mt.str av.2)] 87))
        have HP1 := Lib.hid p1
        have HAV := Lib.hid hav
        obtain ⟨z, hz⟩ : ∃ z, ((k : Int) == 8) = z := ⟨_, rfl⟩
        have hz8 : decide (k = 8) = z := by rw [← hz, Bool.eq_iff_iff]; simp; omega
        clear hb0 hav hload
        cases z
        · have hk8' : k ≠ 8 := by simpa using hz8
          have HTY := Lib.hid (type_any (Mt.str av.1) (wr.alloc (.cells #[.string (Mt.str av.1), .string (Mt.str av.2)] 87)))
          rw [Mt.str_data] at HTY
          cases hty : Mt.typL av.1 with
          | false =>
            rw [hty] at HTY
            have HF : Hid (R = 20) := Lib.hid (by rw [← HR.out, HD.out]; simp [Mt.askA, hk8', hty])
            clear hty hk8' hz8
            go_wp2_with fail
            refine (HTY.out).mono ?_
            rintro e w2 ⟨rfl, hb⟩
            have HB2 := Lib.hid (HBx.out.trans (hb.mono HBx.out.size))
            clear hb
            go_wp2_with fail
            go_ret
            exact ⟨Mt.ret_int (by rw [HF.out]; rfl), HB2.out⟩
          | true =>
            rw [hty] at HTY
            have htl := Mt.typ_len hty
            have HH := Lib.hid (fun (u : World) (hu : Below w.heap.size w u) => has_any (HV.out k hk u hu) (Mt.str av.1) (by rw [Mt.str_size]; omega) (fun a ha => by have := HT.out a ha; omega))
            rw [Mt.str_data] at HH
            have hkc : (k : Int) ≤ (cap : Int) := by have := HC.out; omega
            have hkc2 : k ≤ cap := by omega
            cases hhas : Mt.hasL (r.take k) av.1 with
            | true =>
              rw [hhas] at HH
              have HF : Hid (R = 21) := Lib.hid (by rw [← HR.out, HD.out]; simp [Mt.askA, hk8', hty, hhas])
              clear hty hk8' hz8 hhas htl
              go_wp2_with fail
              refine (HTY.out).mono ?_
              rintro e w2 ⟨rfl, hb⟩
              have HB2 := Lib.hid (HBx.out.trans (hb.mono HBx.out.size))
              have q1 := (hb.cell (p := ⟨wr.heap.size, 0, none⟩) (by simp)).trans HP1.out
              have q1' := (World.cell?_drew w2 ⟨wr.heap.size, 0, none⟩).trans q1
              clear hb
              go_upto_region 10 with fail
              go_region_law (first | (go_simp; go_at_call 85; go_must ((refine (HH.out _ HB2.out.drew).mono ?_); (rintro e w3 ⟨rfl, hb⟩); (have HB3 := Lib.hid (HB2.out.drew.trans (hb.mono HB2.out.size))); (clear hb))))
              all_goals
                go_wp2_with fail
                go_ret
                exact ⟨Mt.ret_int (by rw [HF.out]; rfl), HB3.out⟩
            | false =>
              rw [hhas] at HH
              have HF : Hid (Mt.askA r (k + 1) (r.drop (k + 1)) = R) := Lib.hid (by rw [← HR.out, HD.out]; simp [Mt.askA, hk8', hty, hhas])
              have HT2 : Hid (∀ a ∈ r.take (k + 1), a.1.length ≤ 32) := Lib.hid (by
                intro a ha
                rw [List.take_succ_eq_append_getElem hlt, List.mem_append, List.mem_singleton, HAV.out] at ha
                rcases ha with ha | rfl
                · exact HT.out a ha
                · exact htl)
              clear hty hz8 hhas htl
              go_wp2_with fail
              refine (HTY.out).mono ?_
              rintro e w2 ⟨rfl, hb⟩
              have HB2 := Lib.hid (HBx.out.trans (hb.mono HBx.out.size))
              have q1 := (hb.cell (p := ⟨wr.heap.size, 0, none⟩) (by simp)).trans HP1.out
              have q1' := (World.cell?_drew w2 ⟨wr.heap.size, 0, none⟩).trans q1
              clear hb
              go_upto_region 10 with fail
              go_region_law (first | (go_simp; go_at_call 85; go_must ((refine (HH.out _ HB2.out.drew).mono ?_); (rintro e w3 ⟨rfl, hb⟩); (have HB3 := Lib.hid (HB2.out.drew.trans (hb.mono HB2.out.size))); (clear hb))))
              all_goals
                go_wp2_with fail
                go_roundw
                case rel => exact ⟨k + 1, by go_num, by omega, by omega, HF, HT2, HB3⟩
                case measure => simp [intOf]; omega
        · have hk8' : k = 8 := by simpa using hz8
          have HF : Hid (R = 9) := Lib.hid (by rw [← HR.out, HD.out]; simp [Mt.askA, hk8'])
          clear hk8' hz8
          go_wp2_with fail
          go_ret
          exact ⟨Mt.ret_int (by rw [HF.out]; rfl), HBx.out⟩
      · have HF : Hid (R = 0) := Lib.hid (by rw [← HR.out, List.drop_eq_nil_of_le (by omega)]; simp [Mt.askA])
        go_wp2_with fail
        go_ret
        exact ⟨Mt.ret_int (by rw [HF.out]; rfl), HB.out⟩
end Go.Proofs.YtngdbhncafnliaaGreat

/-
  What the call dn.ask comes to.
-/
namespace Go.Proofs.YtngdbhncafnliaaGreat
open Go.RowKit

set_option maxRecDepth 100000 in
set_option maxHeartbeats 1000000 in
theorem ask_any {w : World} {v : Value} {d : List (List Mt.Av)} (hv : IsDn w v d) :
    Calls Tryz.prog 56 #[v] w fun e w' => e = .returned (.int .i64 (Mt.askD d)) ∧ Below w.heap.size w w' := by
  obtain ⟨a, cap, rfl, hn, hcap, hcell⟩ := hv
  obtain ⟨R, hR⟩ : ∃ R, Mt.askF 0 d = R := ⟨_, rfl⟩
  have HR0 := Lib.hid hR
  have HD : Hid (Mt.askD d = if R ≠ 0 then R else if d.any Mt.longR then 5 else 0) := Lib.hid (by rw [← hR]; rfl)
  have HX : Hid (∀ j (hj : j < d.length), ∃ b off, a = some ⟨b, off, none⟩ ∧ ∃ x, IsAvs w x d[j] ∧ ∀ u, Below w.heap.size w u → u.cell? ⟨b, off + j, none⟩ = some x) := by
    intro j hj
    rcases hcell with h | ⟨b, off, h1, h2, h3⟩
    · subst h; simp at hj
    · obtain ⟨x, h4, h5⟩ := h3 j hj
      exact ⟨b, off, h1, x, h5, fun u hu => (hu.cell (p := ⟨b, off + j, none⟩) h2).trans h4⟩
  obtain ⟨Z, hZ⟩ : ∃ Z, Mt.askD d = Z := ⟨_, rfl⟩
  rw [hZ] at HD ⊢
  clear hcell hcap hR hZ
  go_enter Tryz.func56, Tryz.ntmps56
  go_wp2_with fail
  go_loopw [3, 9] (fun l i wr => ∃ (k : Nat) (L : Bool), i = .int .i64 k ∧ l = .bool L ∧ k ≤ d.length ∧ k ≤ 32 ∧ Hid ((d.take k).any Mt.longR = L) ∧ Hid (Mt.askF k (d.drop k) = R) ∧ Hid (Below w.heap.size w wr))
    (fun _ i _ => d.length - (intOf i).toNat)
  case atStart => exact ⟨0, false, rfl, rfl, Nat.zero_le _, by omega, Lib.hid rfl, HR0, Lib.hid (Below.refl _ _)⟩
  case round =>
    obtain ⟨k, L, rfl, rfl, hk, hk32, HL, HR, HB⟩ := hrel
    by_cases hlt : k < d.length
    · obtain ⟨b, off, rfl, x, hx, hload⟩ := HX.out k hlt
      have hl0 := hload wr HB.out
      have HDR := Lib.hid (List.drop_eq_getElem_cons hlt)
      have HTK : Hid ((d.take (k + 1)).any Mt.longR = (L || Mt.longR d[k])) := Lib.hid (by
        rw [List.take_succ_eq_append_getElem hlt, List.any_append, HL.out]; simp)
      have HA := Lib.hid (askRDN_any (hx.below HB.out))
      have HC := Lib.hid (fun (u : World) (hu : Below w.heap.size w u) => containsAsk_any (hx.below hu))
      obtain ⟨q, hq⟩ : ∃ q, Mt.longR d[k] = q := ⟨_, rfl⟩
      have HC2 : Hid (∀ (u : World), Below w.heap.size w u → Calls Tryz.prog 71 #[x, .func (.func 72) #[] #[]] u fun e w' => e = .returned (.bool q) ∧ Below u.heap.size u w') := Lib.hid (fun u hu => by rw [← hq]; exact HC.out u hu)
      rw [hq] at HTK
      obtain ⟨z, hz⟩ : ∃ z, ((k : Int) == 32) = z := ⟨_, rfl⟩
      have hz32 : decide (k = 32) = z := by rw [← hz, Bool.eq_iff_iff]; simp; omega
      have HHK := Lib.hid (And.intro hk32 hk)
      obtain ⟨xa, xc, rfl, _⟩ := hx
      clear hload hq HC hk32
      cases z
      · have hk' : k ≠ 32 := by simpa using hz32
        obtain ⟨e, he⟩ : ∃ e, Mt.askR d[k] = e := ⟨_, rfl⟩
        rw [he] at HA
        by_cases he0 : e = 0
        · subst he0
          have HF : Hid (Mt.askF (k + 1) (d.drop (k + 1)) = R) := Lib.hid (by rw [← HR.out, HDR.out]; simp [Mt.askF, hk', he])
          have HK' := Lib.hid hk'
          clear hk' hz32 he
          cases L
          · go_wp2_with fail
            refine (HA.out).mono ?_
            rintro e w2 ⟨rfl, hb⟩
            have HB2 := Lib.hid (HB.out.trans (hb.mono HB.out.size))
            clear hb
            go_wp2_with fail
            refine (HC2.out _ HB2.out).mono ?_
            rintro e w3 ⟨rfl, hb⟩
            have HB3 := Lib.hid (HB2.out.trans (hb.mono HB2.out.size))
            clear hb
            go_wp2_with fail
            go_roundw
            case rel => exact ⟨k + 1, q, by go_num, rfl, by omega, by have := HHK.out; have := HK'.out; omega, by rw [HTK.out]; exact Lib.hid rfl, HF, HB3⟩
            case measure => simp [intOf]; omega
          · go_wp2_with fail
            refine (HA.out).mono ?_
            rintro e w2 ⟨rfl, hb⟩
            have HB2 := Lib.hid (HB.out.trans (hb.mono HB.out.size))
            clear hb
            go_wp2_with fail
            go_roundw
            case rel => exact ⟨k + 1, true, by go_num, rfl, by omega, by have := HHK.out; have := HK'.out; omega, by rw [HTK.out]; exact Lib.hid rfl, HF, HB2⟩
            case measure => simp [intOf]; omega
        · have HF : Hid (Z = e) := Lib.hid (by
            have : R = e := by rw [← HR.out, HDR.out]; simp [Mt.askF, hk', he, he0]
            rw [HD.out, this, if_pos he0])
          have hei : ((e : Int) != 0) = true := by simp; omega
          clear hk' hz32 he he0
          go_wp2_with fail
          refine (HA.out).mono ?_
          rintro x w2 ⟨rfl, hb⟩
          have HB2 := Lib.hid (HB.out.trans (hb.mono HB.out.size))
          clear hb
          go_wp2_with fail
          go_ret
          exact ⟨Mt.ret_int (by rw [HF.out]), HB2.out⟩
      · have hk' : k = 32 := by simpa using hz32
        have HF : Hid (Z = 9) := Lib.hid (by
          have : R = 9 := by rw [← HR.out, HDR.out]; simp [Mt.askF, hk']
          rw [HD.out, this]; rfl)
        clear hk' hz32
        go_wp2_with fail
        go_ret
        exact ⟨Mt.ret_int (by rw [HF.out]; rfl), HB.out⟩
    · have HF : Hid (Z = if L then 5 else 0) := Lib.hid (by
        have h1 : R = 0 := by rw [← HR.out, List.drop_eq_nil_of_le (by omega)]; simp [Mt.askF]
        have h2 : d.any Mt.longR = L := by have := HL.out; rwa [List.take_of_length_le (by omega)] at this
        rw [HD.out, h1, h2]; rfl)
      clear hk32
      cases L
      · go_wp2_with fail
        go_ret
        exact ⟨Mt.ret_int (by rw [HF.out]; rfl), HB.out⟩
      · go_wp2_with fail
        go_ret
        exact ⟨Mt.ret_int (by rw [HF.out]; rfl), HB.out⟩
end Go.Proofs.YtngdbhncafnliaaGreat
