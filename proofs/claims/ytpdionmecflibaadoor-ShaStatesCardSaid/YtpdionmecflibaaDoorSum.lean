/-
  What the state's Sum and sha.Sum256 come to.
-/
import Derived.Test.YtpdionmecflibaaDoorWrites
import Derived.Test.YtpdionmecflibaaDoorText
namespace Go.Proofs.YtpdionmecflibaaDoor
open Go.RowKit

/-- string(b) of whatever slice of the call's own. -/
theorem conv_bytes_own (l : List UInt8) (B n : Nat) (v : Value) (w : World) (hown : w.ownsRow B 5 1 v n (Mt.cs l)) :
    (convert 46 9 v).run Tryd.prog w = .ok (.string (strOfNums (l.map fun c => (c.toNat : Int)))) w := by
  have e : Mt.cs l = (l.map fun c => (c.toNat : Int)).map (Value.int .u8) := by simp [Mt.cs]
  rw [e] at hown
  have hl : (l.map fun c => (c.toNat : Int)).length = n := by have := hown.1; simpa using this
  rcases hown.2 with ⟨rfl, rfl⟩ | ⟨g, cap, cur, rfl, _⟩
  · have h0 : l = [] := by simpa using hl
    subst h0
    exact run_convert_bytes_nil (P := Tryd.prog) w 46 5 Tryd.underlying46 Tryd.underlying5 0 0 9 Tryd.underlying9
  · exact run_convert_bytes_arg (P := Tryd.prog) w 46 5 Tryd.underlying46 Tryd.underlying5 g 0 n cap _ hl (fun i hi => by
      rw [Nat.zero_add, hown.cellAt _ (by omega)]
      simp [List.getD, List.getElem?_eq_getElem (show i < l.length by simpa using (by omega : i < (l.map fun c => (c.toNat : Int)).length))]) 9 Tryd.underlying9

theorem sum_nilstate (w : World) : Calls Tryd.prog 14 #[.pointer none] w fun e w' => e = .returned (.string ByteArray.empty) ∧ w = w' := by
  go_enter Tryd.func14, Tryd.ntmps14
  go_wp2_with fail
  go_ret
  exact ⟨rfl, rfl⟩

theorem index_words (V : Mt.W8) (k : Nat) (hk : k < 8) (w : World) : (Instr.index 57 (.agg V.cells) (.int .i64 (k : Int))).run Tryd.prog w = .ok (.int .u32 ((V.list.getD k 0 : Nat) : Int)) w := by
  rcases (show k = 0 ∨ k = 1 ∨ k = 2 ∨ k = 3 ∨ k = 4 ∨ k = 5 ∨ k = 6 ∨ k = 7 by omega) with rfl | rfl | rfl | rfl | rfl | rfl | rfl | rfl <;> kernel_rfl

set_option maxHeartbeats 1600000 in
set_option maxRecDepth 100000 in
theorem sum_any (B : Nat) (M : List UInt8) (w : World) (h : IsSt w B M) (hg : Laid w) (hM : M.length ≤ 1099511627776) :
    Calls Tryd.prog 14 #[.pointer (some ⟨B, 0, none⟩)] w fun e w' => e = .returned (.string (Mt.str (Mt.sha M))) ∧ Below w.heap.size w w' := by
  obtain ⟨R, hR1, hR2⟩ := h
  have HW := Lib.hid hR1.words
  have HEND := Lib.hid (fun A => end_any B (Mt.mid M) R M.length (w.alloc A) ⟨hR1.1, by rw [heap_alloc_old _ _ hR1.lt]; exact hR1.2⟩ (by omega))
  rw [hR2] at HEND
  have HG := Lib.hid hg
  have hcell := hR1.count
  clear hg hcell hR1 hR2
  go_enter Tryd.func14, Tryd.ntmps14
  have HMS := Lib.hid (Mt.W8.cells_size (Mt.mid M))
  have HM1 := Lib.hid (Mt.cells32_one (Mt.mid M).list)
  go_upto_region 4 with (first
    | (refine wpList_load_run rfl 57 (.tmp 12) rfl ⟨B, 0, none⟩ _ rfl HW.out ?_)
    | (refine wpList_store_row rfl 57 (.tmp 3) (.tmp 13) rfl w.heap.size (Mt.mid M).cells rfl rfl 57 _ (heap_alloc_new _ _) (by rw [HMS.out]; exact Tryd.sz8) (by rw [HMS.out]; rfl) HM1.out ?_))
  rw [World.setRow_alloc_new]
  go_wp2_with fail
  refine (HEND.out _).mono ?_
  rintro e w1 ⟨v1, rfl, ho1, hb1⟩
  have hsz1 : w.heap.size + 1 ≤ w1.heap.size := by simpa using hb1.size
  have hBW := ((Below.refl w.heap.size w).alloc (Nat.le_refl _) (.cells (Mt.mid M).cells 57)).trans (hb1.mono (by simp))
  have HBW := Lib.hid hBW
  have HX1 := Lib.hid (show w1.heap[w.heap.size]? = some (.cells (Mt.mid M).cells 57 (0, 0)) by rw [hb1.block _ (by simp), heap_alloc_new])
  have hn0 : 0 < M.length % 64 + (Mt.zs M.length + 9) := by omega
  obtain ⟨g, cp, rfl⟩ := own_form ho1 hn0
  have hgX : w.heap.size + 1 ≤ g ∧ g < w1.heap.size := by
    have h := ho1.lt g rfl
    simpa using h
  obtain ⟨L, hL⟩ : ∃ L, Mt.left M ++ Mt.pd M.length = L := ⟨_, rfl⟩
  have hLl : L.length = M.length % 64 + (Mt.zs M.length + 9) := by rw [← hL, List.length_append, Mt.left_length, Mt.pd_length]
  obtain ⟨q, hq⟩ : ∃ q, (M.length % 64 + (Mt.zs M.length + 9)) = 64 * q := ⟨(M.length % 64 + (Mt.zs M.length + 9)) / 64, by unfold Mt.zs; omega⟩
  have hq3 : q ≤ 2 := by unfold Mt.zs at hq; omega
  rw [hL, hq] at ho1
  rw [hq] at hLl
  have hcp : 64 * q ≤ cp := by
    rcases ho1.2 with ⟨h, _⟩ | ⟨g', cap', cur, h1, h2, h3, h4, _⟩
    · cases h
    · injection h1 with _ _ h5; omega
  have HCELL : Hid (∀ i, i < 64 * q → w1.cell? ⟨g, i, none⟩ = some (.int .u8 ((L.getD i 0).toNat : Int))) := Lib.hid (fun i hi => by
    rw [ho1.cellAt i (by omega)]
    simp [Mt.cs, List.getD, List.getElem?_eq_getElem (show i < L.length by omega)])
  have HFIN := Lib.hid (show Mt.hb (Mt.mid M) L q = Mt.fin M by
    rw [Mt.fin_mid, hL]
    congr 1
    rw [Mt.left_length, Mt.pd_length, hq]; omega)
  rw [hq]
  have HLL := Lib.hid hLl
  have HG1 := Lib.hid (show LaidN w.heap.size w1 from by
    refine ⟨HG.out.below hBW (Nat.le_refl _), ?_, ?_⟩
    · have := World.block_lt_of_cell? w _ (HG.out.1 0 (by decide)); simp at this ⊢; omega
    · have := World.block_lt_of_cell? w _ (HG.out.2 0 (by decide)); simp at this ⊢; omega)
  clear ho1 hb1 hBW hn0 hL hq hLl HEND HW HG
  go_wp2_with fail
  go_loopw [4] (fun v wr => ∃ (j c : Nat) (ad : Addr), j ≤ q ∧ v = .slice (some ad) (64 * (q - j)) c ∧ Hid (j < q → ad = ⟨g, 64 * j, none⟩ ∧ 64 * (q - j) ≤ c) ∧ Hid (Only w.heap.size w1 wr) ∧ Hid (wr.heap[w.heap.size]? = some (.cells (Mt.hb (Mt.mid M) L j).cells 57 (0, 0))))
    (fun v _ => lenV v)
  case atStart => exact ⟨0, cp, _, Nat.zero_le _, rfl, Lib.hid (fun _ => ⟨rfl, hcp⟩), Lib.hid (Only.refl _ _), HX1⟩
  case round =>
    obtain ⟨j, c, ad, hj, rfl, HAD, HO, HX⟩ := hrel
    by_cases hjq : j < q
    · obtain ⟨rfl, hc⟩ := HAD.out hjq
      have hpos : (0 : Int) < ((64 * (q - j) : Nat) : Int) := by omega
      clear HAD
      obtain ⟨V, hV⟩ : ∃ V, Mt.hb (Mt.mid M) L j = V := ⟨_, rfl⟩
      have HVOK := Lib.hid (show V.Ok by rw [← hV]; exact Mt.hb_ok (Mt.hb_ok Mt.V0_ok _ _) _ _)
      have HNX := Lib.hid (show Mt.hb (Mt.mid M) L (j + 1) = Mt.comp V ((L.drop (64 * j)).take 64) by rw [← hV]; rfl)
      rw [hV] at HX
      clear hV
      have hld : (loadVar 57 ⟨w.heap.size, 0, none⟩).run Tryd.prog wr.drew = .ok (.agg V.cells) wr.drew := run_loadVar_row wr.drew w.heap.size 57 57 V.cells (0, 0) _ HX.out Tryd.underlying57 rfl (by rw [Mt.W8.cells_size]; exact Tryd.sz8)
      have HLD := Lib.hid hld
      have hgX2 : g < wr.heap.size := Nat.lt_of_lt_of_le hgX.2 HO.out.size
      have HTU := Lib.hid (turn_any V ((L.drop (64 * j)).take 64) g (64 * j) c wr.drew HVOK.out (HG1.out.only HO.out.drew).1 (by rw [List.length_take, List.length_drop, HLL.out]; omega) (by omega) hgX2 (fun i hi => by
        have h := HO.out.cell (p := ⟨g, 64 * j + i, none⟩) hgX.2 (show g ≠ w.heap.size by omega)
        have h2 := HCELL.out (64 * j + i) (by omega)
        have e : ((L.drop (64 * j)).take 64).getD i 0 = L.getD (64 * j + i) 0 := by
          simp only [List.getD]; rw [List.getElem?_take, if_pos hi, List.getElem?_drop]
        rw [e, ← h2, ← h]; rfl))
      have h64 : (64 : Int) ≤ ((64 * (q - j) : Nat) : Int) := by omega
      have h64c : (64 : Int) ≤ (c : Int) := by omega
      clear hld
      go_wp2_with fail
      refine wp_region_still_tail 3 (by kernel_rfl) (by kernel_rfl) ?_
      simp only [List.take_succ_cons, List.take_zero, List.drop_succ_cons, List.drop_zero]
      refine wpStill_step (fun K hK => still_load rfl 57 (.tmp 3) rfl ⟨w.heap.size, 0, none⟩ (.agg V.cells) rfl HLD.out (hK _ ?_))
      clear hK K
      repeat still_step
      refine wpStill_nil ?_
      change wpList _ _ _ _ _ wr.drew
      go_wp2_with fail
      refine (HTU.out).mono ?_
      rintro e w2 ⟨rfl, hb2⟩
      have HO2 := Lib.hid (HO.out.drew.then hb2)
      have HX2 := Lib.hid (show w2.heap[w.heap.size]? = some (.cells V.cells 57 (0, 0)) by
        rw [hb2.block _ (show w.heap.size < wr.heap.size by omega)]; exact HX.out)
      rw [← HNX.out]
      clear hb2 HO HX HLD HTU
      obtain ⟨V2, hV2⟩ : ∃ V2, Mt.hb (Mt.mid M) L (j + 1) = V2 := ⟨_, rfl⟩
      rw [hV2]
      have HE2 := Lib.hid hV2
      clear hV2 HNX
      have HC1 := Lib.hid (Mt.W8.cells_size V)
      have HC2 := Lib.hid (Mt.W8.cells_size V2)
      have HO3 := Lib.hid (Mt.cells32_one V2.list)
      go_wp2_with (refine wpList_store_row rfl 57 (.tmp 3) (.tmp 24) rfl w.heap.size V2.cells rfl rfl 57 _ HX2.out (by rw [HC2.out]; exact Tryd.sz8) (by rw [HC1.out, HC2.out]) HO3.out ?_)
      go_roundw
      case rel =>
        refine ⟨j + 1, c - 64, (if c = 64 then ⟨g, 64 * j, none⟩ else ⟨g, 64 * j + 64, none⟩), by omega, ?_, Lib.hid (fun h => ?_), Lib.hid (HO2.out.setRow _), Lib.hid ?_⟩
        · have e1 : 64 * (q - j) - 64 = 64 * (q - (j + 1)) := by omega
          rw [e1]
          congr 1
          split <;> rfl
        · rw [if_neg (by omega)]
          exact ⟨rfl, by omega⟩
        · rw [HE2.out]; exact setRow_heap _ _ _ _ _ _ HX2.out
      case measure => simp [lenV]; omega
    · obtain rfl : j = q := by omega
      have hz : decide ((0 : Int) < ((64 * (j - j) : Nat) : Int)) = false := decide_eq_false (by omega)
      have hX := HX.out
      rw [HFIN.out] at hX
      obtain ⟨V, hV⟩ : ∃ V, Mt.fin M = V := ⟨_, rfl⟩
      rw [hV] at hX
      have HXX := Lib.hid hX
      have HVE := Lib.hid hV
      have HBB := Lib.hid (show Below w.heap.size w wr from HBW.out.trans (HO.out.toBelow (Nat.le_refl _) (by omega)))
      have HC1 := Lib.hid (Mt.W8.cells_size V)
      clear hX hV HX HAD HO HX1 HFIN
      go_wp2_with (refine wpList_load_row rfl 57 (.tmp 3) rfl w.heap.size rfl 57 V.cells (0, 0) _ HXX.out Tryd.underlying57 rfl (by rw [HC1.out]; exact Tryd.sz8) ?_)
      clear HCELL HG1 HXX hcp hgX
      go_loopw [5, 26] (fun v i wr => ∃ k : Nat, k ≤ 8 ∧ i = .int .i64 k ∧ Hid (wr.ownsRow w.heap.size 5 1 v (4 * k) (Mt.cs ((V.list.take k).flatMap Mt.bytes4))) ∧ Hid (Below w.heap.size w wr)) (fun _ i _ => 8 - (intOf i).toNat)
      case atStart => exact ⟨0, by omega, rfl, Lib.hid (World.ownsRow_nil _ _ _ _), HBB⟩
      case round =>
        clear HBB
        obtain ⟨k, hk, rfl, HOW, HBB⟩ := hrel
        by_cases hk8 : k < 8
        · have hk8' : (k : Int) < 8 := by omega
          have hix := index_words V k hk8
          have HTK := Lib.hid (show (V.list.take (k + 1)).flatMap Mt.bytes4 = (V.list.take k).flatMap Mt.bytes4 ++ Mt.be8 (V.list.getD k 0) 4 by
            have h8 : k < V.list.length := hk8
            rw [List.take_succ_eq_append_getElem h8, List.flatMap_append]
            simp [List.getD, List.getElem?_eq_getElem h8, Mt.bytes4])
          have hlt32 : V.list.getD k 0 < 4294967296 := Mt.getD_lt (Mt.W8.list_lt (by rw [← HVE.out]; exact Mt.hb_ok Mt.V0_ok _ _)) k
          obtain ⟨x, hx⟩ : ∃ x, V.list.getD k 0 = x := ⟨_, rfl⟩
          rw [hx] at hix HTK hlt32
          have hx64 : (x : Int) % 18446744073709551616 = x := by omega
          have HAP := Lib.hid (app_any x 4 (4 * k) w.heap.size _ _ wr (by decide) (by omega) HBB.out.size HOW.out)
          clear hx
          go_wp2_with fail
          refine (HAP.out).mono ?_
          rintro e w3 ⟨v3, rfl, ho3, hb3⟩
          have HO3 := Lib.hid ho3
          have HB3 := Lib.hid (HBB.out.trans hb3)
          clear ho3 hb3 hix
          go_wp2_with fail
          go_roundw
          case rel =>
            refine ⟨k + 1, by omega, by go_num, Lib.hid ?_, HB3⟩
            rw [HTK.out]
            exact HO3.out
          case measure => simp [intOf]; omega
        · obtain rfl : k = 8 := by omega
          have hk8' : decide ((8 : Int) < 8) = false := rfl
          have HSHA := Lib.hid (show strOfNums (((V.list.take 8).flatMap Mt.bytes4).map fun c => (c.toNat : Int)) = Mt.str (Mt.sha M) by
            rw [Mt.str_nums]
            unfold Mt.sha Mt.out
            rw [HVE.out]; rfl)
          have hcv := conv_bytes_own ((V.list.take 8).flatMap Mt.bytes4) w.heap.size _ _ wr HOW.out
          go_wp2_with fail
          go_ret
          exact ⟨Mt.ret_str HSHA.out, HBB.out⟩

end Go.Proofs.YtpdionmecflibaaDoor
