/-
  What sha.schedule comes to.
-/
import Derived.Test.YtpdionmecflibaaDoorRound
import Derived.BigRegion
namespace Go.Proofs.YtpdionmecflibaaDoor
open Go.RowKit

set_option maxHeartbeats 1600000 in
set_option maxRecDepth 100000 in
theorem sched_any (l : List UInt8) (b off cap : Nat) (w : World) (hl : l.length = 64) (hcap : 64 ≤ cap) (hb : b < w.heap.size)
    (hc : ∀ i, i < 64 → w.cell? ⟨b, off + i, none⟩ = some (.int .u8 ((l.getD i 0).toNat : Int))) :
    Calls Tryd.prog 37 #[.slice (some ⟨b, off, none⟩) 64 cap] w fun e w' => e = .returned (.agg (Mt.cells32 (Mt.wl l 64))) ∧ Below w.heap.size w w' := by
  have HC := Lib.hid hc
  have HBB := Lib.hid hb
  have HL := Lib.hid hl
  clear hc hb hl
  go_enter Tryd.func37, Tryd.ntmps37
  go_wp2_with fail
  refine wp_world (fun u => Below w.heap.size w u ∧ (∃ old, u.heap[w.heap.size]? = some (.cells old 71 (0, 0)) ∧ old.size = 64) ∧ u.heap[w.heap.size + 1]? = some (.cells (Mt.cells32 (Mt.wl l 0 ++ List.replicate (64 - 0) 0)) 71 (0, 0))) ⟨((Below.refl _ _).alloc (Nat.le_refl _) _).alloc (by simp) _, ⟨_, heap_alloc2_old w _ _, rfl⟩, ?_⟩ ?_
  · rw [heap_alloc2_new]; rfl
  rintro u ⟨hbel, ⟨old, hold, hos⟩, hw⟩
  have HB0 := Lib.hid hbel
  have HO0 := Lib.hid hold
  have HS := Lib.hid hos
  have HW0 := Lib.hid hw
  clear hbel hold hos hw
  go_loopw [10] (fun i wr => ∃ k : Nat, k ≤ 16 ∧ i = .int .i64 k ∧ Hid (Below w.heap.size w wr) ∧ Hid (wr.heap[w.heap.size]? = some (.cells old 71 (0, 0))) ∧
      Hid (wr.heap[w.heap.size + 1]? = some (.cells (Mt.cells32 (Mt.wl l k ++ List.replicate (64 - k) 0)) 71 (0, 0)))) (fun i _ => 16 - (intOf i).toNat)
  case atStart => exact ⟨0, by omega, rfl, HB0, HO0, HW0⟩
  case round =>
    clear HB0 HO0 HW0
    obtain ⟨k, hk, rfl, HB, HO, HW⟩ := hrel
    by_cases hlt : k < 16
    · have hlt' : (k : Int) < 16 := by omega
      have HW1 : Hid (wr.heap[w.heap.size + 1]? = some (.cells (Mt.cells32 (Mt.wl l k ++ Mt.part l k 0 :: List.replicate (63 - k) 0)) 71 (0, 0))) := Lib.hid (by
        rw [HW.out, show 64 - k = (63 - k) + 1 by omega, List.replicate_succ]; rfl)
      clear HW
      go_wp2_with fail
      go_loopw [21] (fun i wx => ∃ j : Nat, j ≤ 4 ∧ i = .int .i64 j ∧ Hid (Below w.heap.size w wx) ∧ Hid (wx.heap[w.heap.size]? = some (.cells old 71 (0, 0))) ∧
          Hid (wx.heap[w.heap.size + 1]? = some (.cells (Mt.cells32 (Mt.wl l k ++ Mt.part l k j :: List.replicate (63 - k) 0)) 71 (0, 0)))) (fun i _ => 4 - (intOf i).toNat)
      case atStart => exact ⟨0, by omega, rfl, HB, HO, HW1⟩
      case round =>
        clear HB HO HW1
        obtain ⟨j, hj, rfl, HB, HO, HW⟩ := hrel
        by_cases hjl : j < 4
        · have hjl' : (j : Int) < 4 := by omega
          have HBE := HB.out
          have hcell : wr.cell? ⟨b, off + 4 * k + j, none⟩ = some (.int .u8 ((l.getD (4 * k + j) 0).toNat : Int)) := by
            rw [HBE.cell (p := ⟨b, off + 4 * k + j, none⟩) HBB.out, Nat.add_assoc]
            exact HC.out (4 * k + j) (by omega)
          have hX := Mt.part_lt l k j
          have hX2 : Mt.part l k j < 16777216 := by
            have : (256 : Nat) ^ j ≤ 256 ^ 3 := Nat.pow_le_pow_right (by decide) (by omega)
            omega
          have hcb : (l.getD (4 * k + j) 0).toNat < 256 := (l.getD (4 * k + j) 0).toNat_lt
          have hor := Mt.part_or _ _ hX2 hcb
          have hwc : wr.cell? ⟨w.heap.size + 1, k, none⟩ = some (.int .u32 ((Mt.part l k j : Nat) : Int)) := by
            rw [cell_of_row _ _ _ _ _ _ HW.out]
            exact Mt.cells32_at _ _ _ _ (Mt.wl_length l k)
          have hfz : wr.frozen? ⟨w.heap.size + 1, k, none⟩ = false := frozen_of_row _ _ _ _ _ HW.out
          have HSET := Lib.hid (Mt.cells32_set (Mt.wl l k) (List.replicate (63 - k) 0) (Mt.part l k j) (Mt.part l k (j + 1)) k (Mt.wl_length l k))
          have HP := Lib.hid (show ((Mt.part l k (j + 1) : Nat) : Int) = (Mt.part l k j : Int) * 256 + ((l.getD (4 * k + j) 0).toNat : Int) by simp [Mt.part])
          clear hX hX2 HBE
          generalize (l.getD (4 * k + j) 0).toNat = c at hcell hcb hor HP
          generalize Mt.part l k j = X at hwc hor HP HW HSET
          clear hcb
          go_wp2_with fail
          go_roundw
          case rel =>
            refine ⟨j + 1, by omega, by go_num, Lib.hid (Below.setCell HB.out (Nat.le_succ _) _), Lib.hid ?_, Lib.hid ?_⟩
            · rw [heap_setCell_other _ _ _ _ (by simp)]; exact HO.out
            · have h := HSET.out
              rw [HP.out] at h
              rw [heap_setCell_same _ _ _ _ _ _ HW.out, h]
          case measure => simp [intOf]; omega
        · obtain rfl : j = 4 := by omega
          have hjl' : decide ((4 : Int) < 4) = false := rfl
          go_wp2_with fail
          go_roundw
          case rel =>
            refine ⟨k + 1, by omega, by go_num, HB, HO, Lib.hid ?_⟩
            rw [HW.out, Mt.part_four]
            have e : Mt.wl l (k + 1) = Mt.wl l k ++ [Mt.be32 l k] := by
              show Mt.wl l k ++ [Mt.newW l (Mt.wl l k) k] = _
              rw [Mt.newW, if_pos hlt]
            rw [e, show 64 - (k + 1) = 63 - k by omega, List.append_assoc]
            rfl
          case measure => simp [intOf]; omega
    · obtain rfl : k = 16 := by omega
      have hlt' : decide ((16 : Int) < 16) = false := rfl
      go_wp2_with fail
      go_loopw [7] (fun i wr => ∃ m : Nat, m ≤ 48 ∧ i = .int .i64 ((m : Int) + 16) ∧ Hid (Below w.heap.size w wr) ∧ Hid (wr.heap[w.heap.size]? = some (.cells old 71 (0, 0))) ∧
          Hid (wr.heap[w.heap.size + 1]? = some (.cells (Mt.cells32 (Mt.wl l (m + 16) ++ List.replicate (48 - m) 0)) 71 (0, 0)))) (fun i _ => 64 - (intOf i).toNat)
      case atStart => exact ⟨0, by omega, rfl, HB, HO, HW⟩
      case round =>
        clear HB HO HW
        obtain ⟨m, hm, rfl, HB, HO, HW⟩ := hrel
        by_cases hml : m < 48
        · have hml' : (m : Int) + 16 < 64 := by omega
          have HW1 := Lib.hid (show wr.heap[w.heap.size + 1]? = some (.cells (Mt.cells32 (Mt.wl l (m + 16) ++ 0 :: List.replicate (47 - m) 0)) 71 (0, 0)) by
            rw [HW.out, show 48 - m = (47 - m) + 1 by omega, List.replicate_succ])
          clear HW
          have hget : ∀ i, i < m + 16 → wr.cell? ⟨w.heap.size + 1, i, none⟩ = some (.int .u32 (((Mt.wl l (m + 16)).getD i 0 : Nat) : Int)) := fun i hi => by
            rw [cell_of_row _ _ _ _ _ _ HW1.out]
            have h := Mt.cells32_get (Mt.wl l (m + 16) ++ 0 :: List.replicate (47 - m) 0) i (by rw [List.length_append, Mt.wl_length]; omega)
            rw [h]
            have e : (Mt.wl l (m + 16) ++ 0 :: List.replicate (47 - m) 0).getD i 0 = (Mt.wl l (m + 16)).getD i 0 := by
              simp only [List.getD]
              rw [List.getElem?_append_left (by rw [Mt.wl_length]; exact hi)]
            rw [e]
          have hlt2 := Mt.getD_lt (Mt.wl_lt l (m + 16)) (m + 14)
          have hlt15 := Mt.getD_lt (Mt.wl_lt l (m + 16)) (m + 1)
          have HN := Lib.hid (show Mt.nextW (Mt.wl l (m + 16)) (m + 16) = (Mt.s1 ((Mt.wl l (m + 16)).getD (m + 14) 0) + (Mt.wl l (m + 16)).getD (m + 9) 0 + Mt.s0 ((Mt.wl l (m + 16)).getD (m + 1) 0) + (Mt.wl l (m + 16)).getD m 0) % 4294967296 from rfl)
          have hp := hget (m + 14) (by omega)
          have hq := hget (m + 9) (by omega)
          have hr := hget (m + 1) (by omega)
          have ho := hget m (by omega)
          clear hget
          generalize (Mt.wl l (m + 16)).getD (m + 14) 0 = p at hp hlt2 HN
          generalize (Mt.wl l (m + 16)).getD (m + 9) 0 = q at hq HN
          generalize (Mt.wl l (m + 16)).getD (m + 1) 0 = r at hr hlt15 HN
          generalize (Mt.wl l (m + 16)).getD m 0 = o at ho HN
          have z1 := u32_xor_nat (Mt.rr 17 p) (Mt.rr 19 p) (Mt.rr_lt _ _ hlt2) (Mt.rr_lt _ _ hlt2)
          have z2 := u32_xor_nat (Mt.rr 17 p ^^^ Mt.rr 19 p) (p / 1024) (xor_lt _ _ (Mt.rr_lt _ _ hlt2) (Mt.rr_lt _ _ hlt2)) (by omega)
          have y1 := u32_xor_nat (Mt.rr 7 r) (Mt.rr 18 r) (Mt.rr_lt _ _ hlt15) (Mt.rr_lt _ _ hlt15)
          have y2 := u32_xor_nat (Mt.rr 7 r ^^^ Mt.rr 18 r) (r / 8) (xor_lt _ _ (Mt.rr_lt _ _ hlt15) (Mt.rr_lt _ _ hlt15)) (by omega)
          have R17 := Lib.hid (fun u => right_q p 17 17 _ u rfl rfl hlt2 (by decide) (by decide))
          have R19 := Lib.hid (fun u => right_q p 19 19 _ u rfl rfl hlt2 (by decide) (by decide))
          have R7 := Lib.hid (fun u => right_q r 7 7 _ u rfl rfl hlt15 (by decide) (by decide))
          have R18 := Lib.hid (fun u => right_q r 18 18 _ u rfl rfl hlt15 (by decide) (by decide))
          have HS1 := Lib.hid (show Mt.s1 p = Mt.rr 17 p ^^^ Mt.rr 19 p ^^^ p / 1024 from rfl)
          have HS0 := Lib.hid (show Mt.s0 r = Mt.rr 7 r ^^^ Mt.rr 18 r ^^^ r / 8 from rfl)
          generalize Mt.rr 17 p ^^^ Mt.rr 19 p ^^^ p / 1024 = z at z2 HS1
          generalize Mt.rr 17 p ^^^ Mt.rr 19 p = z' at z1 z2
          generalize Mt.rr 17 p = y17 at z1 R17
          generalize Mt.rr 19 p = y19 at z1 R19
          generalize Mt.rr 7 r ^^^ Mt.rr 18 r ^^^ r / 8 = y at y2 HS0
          generalize Mt.rr 7 r ^^^ Mt.rr 18 r = y' at y1 y2
          generalize Mt.rr 7 r = y7 at y1 R7
          generalize Mt.rr 18 r = y18 at y1 R18
          rw [HS1.out, HS0.out] at HN
          have e1 : ((p / 1024 : Nat) : Int) = (p : Int) / 1024 := by omega
          have e2 : ((r / 8 : Nat) : Int) = (r : Int) / 8 := by omega
          rw [e1] at z2
          rw [e2] at y2
          clear e1 e2 HS1 HS0 hlt2 hlt15
          have a1 : (m : Int) + 14 < 64 := by omega
          have a2 : (m : Int) + 9 < 64 := by omega
          have a3 : (m : Int) + 1 < 64 := by omega
          have a4 : (m : Int) < 64 := by omega
          go_wp2_with fail
          go_quiet ((go_at_call 46; first | (with_reducible exact R17.out _ _) | (with_reducible exact R19.out _ _)))
          refine wp_world (fun u => Below w.heap.size w u ∧ u.heap[w.heap.size]? = some (.cells old 71 (0, 0)) ∧ u.heap[w.heap.size + 1]? = some (.cells (Mt.cells32 (Mt.wl l (m + 16) ++ 0 :: List.replicate (47 - m) 0)) 71 (0, 0)) ∧ u.cell? ⟨w.heap.size + 1, m + 14, none⟩ = some (.int .u32 (p : Int)) ∧ u.cell? ⟨w.heap.size + 1, m + 9, none⟩ = some (.int .u32 (q : Int)) ∧ u.cell? ⟨w.heap.size + 1, m + 1, none⟩ = some (.int .u32 (r : Int)) ∧ u.cell? ⟨w.heap.size + 1, m, none⟩ = some (.int .u32 (o : Int))) ⟨below_drewN' _ HB.out, HO.out, HW1.out, hp, hq, hr, ho⟩ ?_
          clear hp hq hr ho HB HO HW1 R17 R19 z1 z2
          rintro v1 ⟨hB, hO, hW, hp, hq, hr, ho⟩
          have HB := Lib.hid hB
          have HO := Lib.hid hO
          have HW1 := Lib.hid hW
          clear hB hO hW
          go_wp2_with fail
          go_quiet ((go_at_call 46; first | (with_reducible exact R7.out _ _) | (with_reducible exact R18.out _ _)))
          refine wp_world (fun u => Below w.heap.size w u ∧ u.heap[w.heap.size]? = some (.cells old 71 (0, 0)) ∧ u.heap[w.heap.size + 1]? = some (.cells (Mt.cells32 (Mt.wl l (m + 16) ++ 0 :: List.replicate (47 - m) 0)) 71 (0, 0)) ∧ u.cell? ⟨w.heap.size + 1, m + 14, none⟩ = some (.int .u32 (p : Int)) ∧ u.cell? ⟨w.heap.size + 1, m + 9, none⟩ = some (.int .u32 (q : Int)) ∧ u.cell? ⟨w.heap.size + 1, m + 1, none⟩ = some (.int .u32 (r : Int)) ∧ u.cell? ⟨w.heap.size + 1, m, none⟩ = some (.int .u32 (o : Int))) ⟨below_drewN' _ HB.out, HO.out, HW1.out, hp, hq, hr, ho⟩ ?_
          clear hp hq hr ho HB HO HW1 R7 R18 y1 y2
          rintro v2 ⟨hB, hO, hW, hp, hq, hr, ho⟩
          have HB := Lib.hid hB
          have HO := Lib.hid hO
          have hfz : v2.frozen? ⟨w.heap.size + 1, m + 16, none⟩ = false := frozen_of_row _ _ _ _ _ hW
          have hwc : v2.cell? ⟨w.heap.size + 1, m + 16, none⟩ = some (.int .u32 (0 : Int)) := by
            rw [cell_of_row _ _ _ _ _ _ hW]
            exact Mt.cells32_at _ _ _ _ (Mt.wl_length l _)
          have HW1 := Lib.hid hW
          clear hB hO hW
          go_wp2_with fail
          go_region
          go_wp2_with fail
          go_roundw
          case rel =>
            refine ⟨m + 1, by omega, by go_num, Lib.hid (Below.setCell HB.out (Nat.le_succ _) _).drew, Lib.hid ?_, Lib.hid ?_⟩
            · rw [heap_drew, heap_setCell_other _ _ _ _ (by simp)]; exact HO.out
            · have hn : (((Mt.nextW (Mt.wl l (m + 16)) (m + 16) : Nat)) : Int) = ((z : Int) + q + y + o) % 4294967296 := by rw [HN.out]; omega
              have h := Mt.cells32_set (Mt.wl l (m + 16)) (List.replicate (47 - m) 0) 0 (Mt.nextW (Mt.wl l (m + 16)) (m + 16)) (m + 16) (Mt.wl_length l _)
              rw [hn] at h
              rw [heap_drew, heap_setCell_same _ _ _ _ _ _ HW1.out, h]
              have e : Mt.wl l (m + 1 + 16) = Mt.wl l (m + 16) ++ [Mt.nextW (Mt.wl l (m + 16)) (m + 16)] := by
                rw [show m + 1 + 16 = (m + 16) + 1 by omega]
                show Mt.wl l (m + 16) ++ [Mt.newW l (Mt.wl l (m + 16)) (m + 16)] = _
                rw [Mt.newW, if_neg (by omega)]
              rw [e, show 48 - (m + 1) = 47 - m by omega, List.append_assoc]
              rfl
          case measure => simp [intOf]; omega
        · obtain rfl : m = 48 := by omega
          have hml' : decide ((48 : Int) + 16 < 64) = false := rfl
          have HW1 := Lib.hid (show wr.heap[w.heap.size + 1]? = some (.cells (Mt.cells32 (Mt.wl l 64)) 71 (0, 0)) by
            rw [HW.out]; simp)
          have HZ := Lib.hid (show some 64 = some (Mt.cells32 (Mt.wl l 64)).size by rw [Mt.cells32_size, Mt.wl_length])
          clear HW
          have hone := Lib.hid (Mt.cells32_one (Mt.wl l 64))
          obtain ⟨cs, hcs⟩ : ∃ cs, Mt.cells32 (Mt.wl l 64) = cs := ⟨_, rfl⟩
          rw [hcs] at HW1 HZ hone
          have HE := Lib.hid hcs
          clear hcs
          go_wp2_with (first | (refine wpList_load_row rfl 71 (.tmp 3) rfl (w.heap.size + 1) rfl 71 cs (0, 0) _ HW1.out Tryd.underlying71 rfl (by rw [← HZ.out]; exact Tryd.sz64) ?_) | (refine wpList_store_row rfl 71 (.tmp 2) (.tmp 89) rfl w.heap.size cs rfl rfl 71 old HO.out (by rw [← HZ.out]; exact Tryd.sz64) (by rw [HS.out]; exact Option.some.inj HZ.out) hone.out ?_))
          refine post_row rfl w.heap.size 71 cs (0, 0) _ rfl rfl (setRow_heap _ _ _ _ _ _ HO.out) (by rw [← HZ.out]; exact Tryd.sz64) Tryd.underlying71 rfl ?_
          exact ⟨Mt.ret_agg HE.out.symm, below_setRow HB.out (Nat.le_refl _) _⟩

end Go.Proofs.YtpdionmecflibaaDoor
