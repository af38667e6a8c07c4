/-
  Some texts of one proof, one behind the other.
-/
import Derived.Test.YtdfpnhdamkogcaaGreatDoorPk29
import Derived.Test.YtdfpnhdamkogcaaGreatDoorPk30
import Derived.Test.YtdfpnhdamkogcaaGreatDoorPk32
import Derived.Test.YtdfpnhdamkogcaaGreatDoorPk47
set_option linter.unusedVariables false
set_option linter.unusedSimpArgs false

/-
  Whether a value has pieces, as the document has it.
-/
namespace Go.Proofs.YtdfpnhdamkogcaaGreatDoor
open Go.RowKit Go.Lib

theorem rCheck4_any {w : World} {v : Value} {ps : List Mt.Pc} (h : IsPcs w v ps) (hn : ps.length ≤ 9223372036854775806) : Calls Tryz.prog 33 #[.agg #[.int .i64 4, .string ⟨#[97]⟩, .string ⟨#[]⟩, v, .slice none 0 0]] w fun e w' => e = .returned (.int .i64 (if Mt.soundB ps then 0 else 4)) ∧ Below w.heap.size w w' := by
  obtain ⟨a, cap, hv, -⟩ := id h
  have HC := Lib.hid (fun u (hu : Below w.heap.size w u) => rcheck4_any (h.below hu) hn)
  subst hv
  generalize (if Mt.soundB ps then (0 : Int) else 4) = E at *
  have HB1 := Lib.hid ((Below.refl w.heap.size w).alloc (Nat.le_refl _) (.cells #[.int .i64 4, .string ⟨#[97]⟩, .string ⟨#[]⟩, .slice a ps.length cap, .slice none 0 0] 56))
  clear h hn
  go_enter Tryz.func33, Tryz.ntmps33
  go_wp2_with fail
  refine (HC.out _ HB1.out).mono ?_
  rintro e w2 ⟨rfl, hb⟩
  have HB2 := Lib.hid (HB1.out.trans (hb.mono HB1.out.size))
  clear hb
  go_wp2_with fail
  go_ret
  exact ⟨rfl, HB2.out⟩
theorem Mt.pieces_kinds : ∀ (n i : Nat) (ps : List Mt.Pc), Mt.piecesF n i ps = true → ∀ p ∈ ps, p.1 = 0 ∨ p.1 = 1 ∨ p.1 = 2
  | _, _, [], _, p, hp => by simp at hp
  | n, i, q :: r, h, p, hp => by
    have h2 : (Mt.pieceB q (decide (i = 0)) (decide (i + 1 = n)) && Mt.piecesF n (i + 1) r) = true := h
    rw [Bool.and_eq_true] at h2
    rcases List.mem_cons.1 hp with rfl | hp
    · have h3 := h2.1
      unfold Mt.pieceB at h3
      rw [Bool.and_eq_true] at h3
      by_cases k0 : p.1 = 0
      · exact .inl k0
      by_cases k1 : p.1 = 1
      · exact .inr (.inl k1)
      by_cases k2 : p.1 = 2
      · exact .inr (.inr k2)
      · have := h3.2; rw [if_neg k0, if_neg k1, if_neg k2] at this; cases this
    · exact Mt.pieces_kinds n (i + 1) r h2.2 p hp
theorem Mt.sound_kinds {ps : List Mt.Pc} (h : Mt.soundB ps = true) : ∀ p ∈ ps, p.1 = 0 ∨ p.1 = 1 ∨ p.1 = 2 := by
  unfold Mt.soundB at h
  rw [Bool.and_eq_true] at h
  exact Mt.pieces_kinds _ _ _ h.2
/-- The pieces as the document turns them. -/
def Mt.turned (syn : Int) (ps : List Mt.Pc) : List Mt.Pc := if syn = 2 then ps else ps.map fun p => (p.1, Mt.foldL p.2)
set_option maxRecDepth 100000 in
set_option maxHeartbeats 1000000 in
theorem rlike_fold (syn : Int) (h13 : syn = 1 ∨ syn = 3) (s : ByteArray) (x : List UInt8) {w : World} {v : Value} {ps : List Mt.Pc} (h : IsPcs w v ps) (hn : ps.length ≤ 30) (ht : ∀ p ∈ ps, p.2.length ≤ 140737488351232) (hso : Mt.soundB ps = true) (hx : x.length ≤ 4096)
    (H1 : Calls Tryz.prog 11 #[.int .i64 syn, .string s] w fun e w' => e = .returned (.tuple #[.string (Mt.str x), .bool true]) ∧ Below w.heap.size w w') :
    Calls Tryz.prog 15 #[.int .i64 syn, .string s, v] w fun e w' => e = .returned (likeV (Mt.hasPs Mt.foldL x ps, true)) ∧ Below w.heap.size w w' := by
  have HC := Lib.hid (fun u (hu : Below w.heap.size w u) => rCheck4_any (h.below hu) (by omega))
  rw [hso, if_pos rfl] at HC
  obtain ⟨a, cap, rfl, HP⟩ := id h
  have HH1 := Lib.hid H1
  obtain ⟨i0, hi, hz0, hz1, hz2⟩ := info_parts Tryz.infoPiece
  have HI := Lib.hid (And.intro hi (And.intro hz0 (And.intro hz1 hz2)))
  obtain ⟨n, hnn⟩ : ∃ n, ps.length = n := ⟨_, rfl⟩
  have HLN := Lib.hid hnn
  have HTT := Lib.hid ht
  have HFIT := Lib.hid (fun (u : World) (v2 : Value) (hv : IsPcy u v2 (ps.map fun p => (p.1, Mt.foldL p.2))) => rfits_any (ps.map fun p => (p.1, Mt.foldL p.2)) (by
    intro p hp
    obtain ⟨q, hq, rfl⟩ := List.mem_map.1 hp
    refine ⟨Mt.sound_kinds hso q hq, ?_⟩
    show (Mt.foldL q.2).length ≤ _
    unfold Mt.foldL
    rw [List.length_map]; exact ht q hq) (Mt.str x) hv (by rw [Mt.str_size]; exact hx))
  rw [Mt.str_data, ← Mt.hasPs_map] at HFIT
  generalize Mt.hasPs Mt.foldL x ps = R at *
  have HNIL : Hid (pcs ((ps.take 0).map fun p => (p.1, Mt.foldL p.2)) = []) := Lib.hid (by rw [List.take_zero]; rfl)
  rw [hnn] at HC ⊢
  have hn0 : n ≤ 30 := by omega
  clear h hnn hn ht hso hx H1 hi hz0 hz1 hz2
  generalize Mt.str x = X at *
  rcases h13 with rfl | rfl
  all_goals
    go_enter Tryz.func15, Tryz.ntmps15
    go_wp2_with fail
    refine (HH1.out).mono ?_
    rintro e w1 ⟨rfl, hb⟩
    have HB1 := Lib.hid hb
    clear hb HH1
    go_wp2_with fail
    refine (HC.out _ HB1.out).mono ?_
    rintro e w2 ⟨rfl, hb⟩
    have HB2 := Lib.hid (HB1.out.trans (hb.mono HB1.out.size))
    clear hb HC
    go_wp2_with fail
    go_loopw [37, 10] (fun iv mv wr => ∃ (i : Nat) (a2 : Option Addr) (c2 : Nat), i ≤ n ∧ iv = .int .i64 (i : Int) ∧ mv = .slice a2 i c2 ∧ Hid (IsOwn 38 2 w.heap.size wr (.slice a2 i c2) i (pcs ((ps.take i).map fun p => (p.1, Mt.foldL p.2))) ∧ Below w.heap.size w wr)) (fun iv _ _ => n - (intOf iv).toNat)
    case atStart =>
      refine ⟨0, none, 0, Nat.zero_le _, rfl, rfl, Lib.hid ⟨?_, HB2.out⟩⟩
      rw [HNIL.out]
      exact IsOwn.nil _ _ _ _
    case round =>
      obtain ⟨i, a2, c2, hi, rfl, rfl, HR⟩ := hrel
      by_cases hlt : i < n
      · have hip : i < ps.length := by rw [HLN.out]; exact hlt
        obtain ⟨b, off, e0, hbl, c0, c1⟩ := HP.out i hip
        obtain ⟨k, t, hkt⟩ : ∃ k t, ps[i] = (k, t) := ⟨_, _, rfl⟩
        have htl := HTT.out _ (List.getElem_mem hip)
        rw [hkt] at c0 c1 htl
        have x4 := (HR.out.2.cell (p := ⟨b, off + i * 2, none⟩) hbl).trans c0
        have x5 := (HR.out.2.cell (p := ⟨b, off + i * 2 + 1, none⟩) hbl).trans c1
        dsimp only at x4 x5 htl
        have HFO := Lib.hid (fun u => rfold_any (Mt.str t) u (by rw [Mt.str_size]; exact htl))
        rw [Mt.str_data] at HFO
        have HTK : Hid ((ps.take (i + 1)).map (fun p => (p.1, Mt.foldL p.2)) = (ps.take i).map (fun p => (p.1, Mt.foldL p.2)) ++ [(k, Mt.foldL t)]) := Lib.hid (by
          rw [List.take_succ_eq_append_getElem hip, List.map_append, hkt]; rfl)
        have HO := Lib.hid HR.out.1
        have HB := Lib.hid HR.out.2
        obtain ⟨wa, hwa⟩ : ∃ wa, wr.alloc (.cells #[.int .i64 k, .string (Mt.str t)] 38) = wa := ⟨_, rfl⟩
        have HBa : Hid (Below wr.heap.size wr wa) := Lib.hid (by rw [← hwa]; exact (Below.refl _ wr).alloc (Nat.le_refl _) _)
        have HXa : Hid (wa.heap[wr.heap.size]? = some (.cells #[.int .i64 k, .string (Mt.str t)] 38)) := Lib.hid (by rw [← hwa]; exact heap_alloc_new wr _)
        have HLa : Hid (wr.heap.size < wa.heap.size) := Lib.hid (by rw [← hwa]; simp)
        have HCa : Hid (∀ u, Below wa.heap.size wa u → u.cell? ⟨wr.heap.size, 0, none⟩ = some (.int .i64 k) ∧ u.cell? ⟨wr.heap.size, 1, none⟩ = some (.string (Mt.str t))) := Lib.hid (fun u hu => by
          have hrow := (hu.block wr.heap.size HLa.out).trans HXa.out
          exact ⟨by rw [cell_of_row _ _ _ _ _ _ hrow]; rfl, by rw [cell_of_row _ _ _ _ _ _ hrow]; rfl⟩)
        subst e0
        have d1 : decide ((i : Int) < (n : Int)) = true := decide_eq_true (by omega)
        have d2 : decide (i < n) = true := decide_eq_true hlt
        have i0 : (0 : Int) ≤ (i : Int) := by omega
        clear hbl c0 c1 hkt HR hip htl
        generalize hTT : Mt.str t = TT at *
        clear hTT
        go_upto_region 9 with fail
        obtain ⟨q0, q1⟩ := HCa.out wa (Below.refl _ _)
        go_wp2_with fail
        refine (HFO.out _).mono ?_
        rintro e w3 ⟨rfl, hb⟩
        have HB3 := Lib.hid hb
        clear q0 q1
        have hk3 := (HB3.out.block wr.heap.size HLa.out).trans HXa.out
        obtain ⟨q0, q1⟩ := HCa.out w3 HB3.out
        obtain ⟨FT, hFT⟩ : ∃ FT, Mt.str (t.map Mt.sm) = FT := ⟨_, rfl⟩
        rw [hFT]
        have HK4 := Lib.hid (heap_setCell_same w3 wr.heap.size 1 _ 38 (.string FT) hk3)
        have HB4 : Hid (Below wr.heap.size wr (w3.setCell ⟨wr.heap.size, 1, none⟩ (.string FT))) := Lib.hid ((HBa.out.trans (HB3.out.mono HBa.out.size)).setCell (Nat.le_refl _) _)
        obtain ⟨w4, hw4⟩ : ∃ w4, w3.setCell ⟨wr.heap.size, 1, none⟩ (.string FT) = w4 := ⟨_, rfl⟩
        rw [hw4] at HK4 HB4
        have p0 : w4.cell? ⟨wr.heap.size, 0, none⟩ = some (.int .i64 k) := by rw [cell_of_row _ _ _ _ _ _ HK4.out]; rfl
        have p1 : w4.cell? ⟨wr.heap.size, 1, none⟩ = some (.string FT) := by rw [cell_of_row _ _ _ _ _ _ HK4.out]; rfl
        have f1 := frozen_of_row _ _ 1 _ _ hk3
        obtain ⟨a3, c3, w5, hrun, hown, hb5⟩ := own_push (T := 29) (tx := 29) Tryz.underlying29 Tryz.underlying29 HI.out.1 HI.out.2.1 HI.out.2.2.1 HI.out.2.2.2 rfl (HO.out.below HB4.out) (Nat.le_trans HB.out.size HB4.out.size) (pcs_one _) #[.int .i64 k, .string FT] rfl (by simp [Value.oneCell']) (by omega) (by omega)
        have HO5 : Hid (IsOwn 38 2 w.heap.size w5 (.slice a3 (i + 1) c3) (i + 1) (pcs ((ps.take (i + 1)).map fun p => (p.1, Mt.foldL p.2)))) := Lib.hid (by
          rw [HTK.out, pcs_append]
          have e : pcs [(k, Mt.foldL t)] = (#[.int .i64 k, .string FT] : Array Value).toList := by rw [← hFT]; rfl
          rw [e]; exact hown)
        have HB5 := Lib.hid ((HB.out.trans (HB4.out.mono HB.out.size)).trans hb5)
        clear hb hk3 hown hb5 hFT
        go_upto_region 10 with fail
        go_wp2_with (refine wpList_append_run rfl _ _ 29 29 rfl _ _ rfl rfl hrun ?_)
        go_roundw
        case rel => exact ⟨i + 1, a3, c3, by omega, by go_num, by rfl, Lib.hid ⟨HO5.out, HB5.out⟩⟩
        case measure => simp [intOf]; omega
      · obtain rfl : i = n := by omega
        have d1 : decide ((i : Int) < (i : Int)) = false := decide_eq_false (by omega)
        have d2 : decide (i < i) = false := decide_eq_false (by omega)
        have htk : ps.take i = ps := by rw [← HLN.out]; exact List.take_length
        have ho := HR.out.1
        rw [htk] at ho
        have hml : (ps.map fun p => (p.1, Mt.foldL p.2)).length = i := by rw [List.length_map]; exact HLN.out
        have hpc : IsPcy wr (.slice a2 i c2) (ps.map fun p => (p.1, Mt.foldL p.2)) := IsOwn.pcs (by rw [hml]; exact ho)
        have HFI := Lib.hid (HFIT.out wr _ hpc)
        have HB := Lib.hid HR.out.2
        clear HR ho htk hml hpc hlt
        go_wp2_with fail
        refine (HFI.out).mono ?_
        rintro e w3 ⟨rfl, hb⟩
        have HB3 := Lib.hid (HB.out.trans (hb.mono HB.out.size))
        clear hb
        go_wp2_with fail
        all_goals (go_ret2; exact ⟨rfl, HB3.out⟩)
set_option maxRecDepth 100000 in
set_option maxHeartbeats 1000000 in
theorem rlike_id (s : ByteArray) (x : List UInt8) {w : World} {v : Value} {ps : List Mt.Pc} (h : IsPcs w v ps) (hn : ps.length ≤ 30) (ht : ∀ p ∈ ps, p.2.length ≤ 140737488351232) (hso : Mt.soundB ps = true) (hx : x.length ≤ 4096)
    (H1 : Calls Tryz.prog 11 #[.int .i64 2, .string s] w fun e w' => e = .returned (.tuple #[.string (Mt.str x), .bool true]) ∧ Below w.heap.size w w') :
    Calls Tryz.prog 15 #[.int .i64 2, .string s, v] w fun e w' => e = .returned (likeV (Mt.hasPs id x ps, true)) ∧ Below w.heap.size w w' := by
  have HC := Lib.hid (fun u (hu : Below w.heap.size w u) => rCheck4_any (h.below hu) (by omega))
  rw [hso, if_pos rfl] at HC
  obtain ⟨a, cap, rfl, HP⟩ := id h
  have HH1 := Lib.hid H1
  obtain ⟨i0, hi, hz0, hz1, hz2⟩ := info_parts Tryz.infoPiece
  have HI := Lib.hid (And.intro hi (And.intro hz0 (And.intro hz1 hz2)))
  obtain ⟨n, hnn⟩ : ∃ n, ps.length = n := ⟨_, rfl⟩
  have HLN := Lib.hid hnn
  have HTT := Lib.hid ht
  have HFIT := Lib.hid (fun (u : World) (v2 : Value) (hv : IsPcy u v2 ps) => rfits_any ps (fun p hp => ⟨Mt.sound_kinds hso p hp, ht p hp⟩) (Mt.str x) hv (by rw [Mt.str_size]; exact hx))
  rw [Mt.str_data] at HFIT
  generalize Mt.hasPs id x ps = R at *
  have HNIL : Hid (pcs (ps.take 0) = []) := Lib.hid (by rw [List.take_zero]; rfl)
  rw [hnn] at HC ⊢
  have hn0 : n ≤ 30 := by omega
  clear h hnn hn ht hso hx H1 hi hz0 hz1 hz2
  generalize Mt.str x = X at *
  go_enter Tryz.func15, Tryz.ntmps15
  go_wp2_with fail
  refine (HH1.out).mono ?_
  rintro e w1 ⟨rfl, hb⟩
  have HB1 := Lib.hid hb
  clear hb HH1
  go_wp2_with fail
  refine (HC.out _ HB1.out).mono ?_
  rintro e w2 ⟨rfl, hb⟩
  have HB2 := Lib.hid (HB1.out.trans (hb.mono HB1.out.size))
  clear hb HC
  go_wp2_with fail
  go_loopw [37, 10] (fun iv mv wr => ∃ (i : Nat) (a2 : Option Addr) (c2 : Nat), i ≤ n ∧ iv = .int .i64 (i : Int) ∧ mv = .slice a2 i c2 ∧ Hid (IsOwn 38 2 w.heap.size wr (.slice a2 i c2) i (pcs (ps.take i)) ∧ Below w.heap.size w wr)) (fun iv _ _ => n - (intOf iv).toNat)
  case atStart =>
    refine ⟨0, none, 0, Nat.zero_le _, rfl, rfl, Lib.hid ⟨?_, HB2.out⟩⟩
    rw [HNIL.out]
    exact IsOwn.nil _ _ _ _
  case round =>
    obtain ⟨i, a2, c2, hi, rfl, rfl, HR⟩ := hrel
    by_cases hlt : i < n
    · have hip : i < ps.length := by rw [HLN.out]; exact hlt
      obtain ⟨b, off, e0, hbl, c0, c1⟩ := HP.out i hip
      obtain ⟨k, t, hkt⟩ : ∃ k t, ps[i] = (k, t) := ⟨_, _, rfl⟩
      have htl := HTT.out _ (List.getElem_mem hip)
      rw [hkt] at c0 c1 htl
      have x4 := (HR.out.2.cell (p := ⟨b, off + i * 2, none⟩) hbl).trans c0
      have x5 := (HR.out.2.cell (p := ⟨b, off + i * 2 + 1, none⟩) hbl).trans c1
      dsimp only at x4 x5 htl
      have HTK : Hid (ps.take (i + 1) = ps.take i ++ [(k, t)]) := Lib.hid (by rw [List.take_succ_eq_append_getElem hip, hkt])
      have HO := Lib.hid HR.out.1
      have HB := Lib.hid HR.out.2
      obtain ⟨wa, hwa⟩ : ∃ wa, wr.alloc (.cells #[.int .i64 k, .string (Mt.str t)] 38) = wa := ⟨_, rfl⟩
      have HBa : Hid (Below wr.heap.size wr wa) := Lib.hid (by rw [← hwa]; exact (Below.refl _ wr).alloc (Nat.le_refl _) _)
      have HXa : Hid (wa.heap[wr.heap.size]? = some (.cells #[.int .i64 k, .string (Mt.str t)] 38)) := Lib.hid (by rw [← hwa]; exact heap_alloc_new wr _)
      have HLa : Hid (wr.heap.size < wa.heap.size) := Lib.hid (by rw [← hwa]; simp)
      have HCa : Hid (∀ u, Below wa.heap.size wa u → u.cell? ⟨wr.heap.size, 0, none⟩ = some (.int .i64 k) ∧ u.cell? ⟨wr.heap.size, 1, none⟩ = some (.string (Mt.str t))) := Lib.hid (fun u hu => by
        have hrow := (hu.block wr.heap.size HLa.out).trans HXa.out
        exact ⟨by rw [cell_of_row _ _ _ _ _ _ hrow]; rfl, by rw [cell_of_row _ _ _ _ _ _ hrow]; rfl⟩)
      subst e0
      have d1 : decide ((i : Int) < (n : Int)) = true := decide_eq_true (by omega)
      have d2 : decide (i < n) = true := decide_eq_true hlt
      have i0 : (0 : Int) ≤ (i : Int) := by omega
      clear hbl c0 c1 hkt HR hip htl
      obtain ⟨TT, hTT⟩ : ∃ TT, Mt.str t = TT := ⟨_, rfl⟩
      rw [hTT] at hwa x5 HXa HCa
      obtain ⟨a3, c3, w5, hrun, hown, hb5⟩ := own_push (T := 29) (tx := 29) Tryz.underlying29 Tryz.underlying29 HI.out.1 HI.out.2.1 HI.out.2.2.1 HI.out.2.2.2 rfl (HO.out.below HBa.out) (Nat.le_trans HB.out.size HBa.out.size) (pcs_one _) #[.int .i64 k, .string TT] rfl (by simp [Value.oneCell']) (by omega) (by omega)
      have HO5 : Hid (IsOwn 38 2 w.heap.size w5 (.slice a3 (i + 1) c3) (i + 1) (pcs (ps.take (i + 1)))) := Lib.hid (by
        rw [HTK.out, pcs_append]
        have e : pcs [(k, t)] = (#[.int .i64 k, .string TT] : Array Value).toList := by rw [← hTT]; rfl
        rw [e]; exact hown)
      have HB5 := Lib.hid ((HB.out.trans (HBa.out.mono HB.out.size)).trans hb5)
      obtain ⟨q0, q1⟩ := HCa.out wa (Below.refl _ _)
      clear hown hb5 hTT
      go_upto_region 10 with fail
      go_wp2_with (refine wpList_append_run rfl _ _ 29 29 rfl _ _ rfl rfl hrun ?_)
      go_roundw
      case rel => exact ⟨i + 1, a3, c3, by omega, by go_num, by rfl, Lib.hid ⟨HO5.out, HB5.out⟩⟩
      case measure => simp [intOf]; omega
    · obtain rfl : i = n := by omega
      have d1 : decide ((i : Int) < (i : Int)) = false := decide_eq_false (by omega)
      have d2 : decide (i < i) = false := decide_eq_false (by omega)
      have htk : ps.take i = ps := by rw [← HLN.out]; exact List.take_length
      have ho := HR.out.1
      rw [htk] at ho
      have hml : ps.length = i := HLN.out
      have hpc : IsPcy wr (.slice a2 i c2) ps := IsOwn.pcs (by rw [hml]; exact ho)
      have HFI := Lib.hid (HFIT.out wr _ hpc)
      have HB := Lib.hid HR.out.2
      clear HR ho htk hml hpc hlt
      go_wp2_with fail
      refine (HFI.out).mono ?_
      rintro e w3 ⟨rfl, hb⟩
      have HB3 := Lib.hid (HB.out.trans (hb.mono HB.out.size))
      clear hb
      go_wp2_with fail
      all_goals (go_ret2; exact ⟨rfl, HB3.out⟩)
set_option maxRecDepth 100000 in
set_option maxHeartbeats 1000000 in
theorem rlike12_any (syn : Int) (s : ByteArray) (hs : s.size ≤ 70368744177664) {w : World} {v : Value} {ps : List Mt.Pc} (h : IsPcs w v ps) (hn : ps.length ≤ 30) (ht : ∀ p ∈ ps, p.2.length ≤ 140737488351232) : Calls Tryz.prog 15 #[.int .i64 syn, .string s, v] w fun e w' => e = .returned (likeV (Mt.likeS syn s.data.toList ps)) ∧ Below w.heap.size w w' := by
  have H1 := Lib.hid (rnorm12_any syn s hs w)
  unfold normV at H1
  cases h1 : Mt.normS syn s.data.toList with
  | none =>
    have e : Mt.likeS syn s.data.toList ps = (false, false) := by unfold Mt.likeS; rw [h1]
    rw [e]
    rw [h1] at H1
    obtain ⟨a, cap, rfl, -⟩ := h
    clear h1 e hn ht hs
    go_enter Tryz.func15, Tryz.ntmps15
    go_wp2_with fail
    refine (H1.out).mono ?_
    rintro e w1 ⟨rfl, hb⟩
    have HB1 := Lib.hid hb
    clear hb H1
    go_wp2_with fail
    all_goals (go_ret2; exact ⟨rfl, HB1.out⟩)
  | some x =>
    have e : Mt.likeS syn s.data.toList ps = if Mt.soundB ps then (if syn = 1 ∨ syn = 3 then (Mt.hasPs Mt.foldL x ps, true) else if syn = 2 then (Mt.hasPs id x ps, true) else (false, false)) else (false, false) := by unfold Mt.likeS; rw [h1]
    rw [e]
    rw [h1] at H1
    have ex : Mt.optT (some x) = x := rfl
    rw [ex] at H1
    by_cases hk : syn = 1 ∨ syn = 3 ∨ syn = 2
    · have hx : x.length ≤ 4096 := Mt.normS_len (by omega) h1
      cases hso : Mt.soundB ps with
      | true =>
        rw [if_pos rfl]
        rcases hk with rfl | rfl | rfl
        · rw [if_pos (by decide)]
          exact rlike_fold 1 (.inl rfl) s x h hn ht hso hx H1.out
        · rw [if_pos (by decide)]
          exact rlike_fold 3 (.inr rfl) s x h hn ht hso hx H1.out
        · rw [if_neg (by decide), if_pos rfl]
          exact rlike_id s x h hn ht hso hx H1.out
      | false =>
        rw [if_neg (by decide)]
        have HC := Lib.hid (fun u (hu : Below w.heap.size w u) => rCheck4_any (h.below hu) (by omega))
        rw [hso, if_neg (by decide)] at HC
        obtain ⟨a, cap, rfl, -⟩ := h
        clear h1 e hn ht hs hso ex hx
        rcases hk with rfl | rfl | rfl
        all_goals
          go_enter Tryz.func15, Tryz.ntmps15
          go_wp2_with fail
          refine (H1.out).mono ?_
          rintro e w1 ⟨rfl, hb⟩
          have HB1 := Lib.hid hb
          clear hb H1
          go_wp2_with fail
          refine (HC.out _ HB1.out).mono ?_
          rintro e w2 ⟨rfl, hb⟩
          have HB2 := Lib.hid (HB1.out.trans (hb.mono HB1.out.size))
          clear hb HC
          go_wp2_with fail
          all_goals (go_ret2; exact ⟨rfl, HB2.out⟩)
    · have e2 : (if Mt.soundB ps then (if syn = 1 ∨ syn = 3 then (Mt.hasPs Mt.foldL x ps, true) else if syn = 2 then (Mt.hasPs id x ps, true) else (false, false)) else (false, false)) = (false, false) := by
        rw [if_neg (show ¬ (syn = 1 ∨ syn = 3) by omega), if_neg (show ¬ syn = 2 by omega)]
        split <;> rfl
      rw [e2]
      obtain ⟨a, cap, rfl, -⟩ := h
      have hcmp : syn < 1 ∨ 3 < syn := by omega
      clear h1 e e2 hn ht hs ex hk
      rcases hcmp with hl | hl
      · have d1 : decide (syn < 1) = true := decide_eq_true hl
        go_enter Tryz.func15, Tryz.ntmps15
        go_wp2_with fail
        refine (H1.out).mono ?_
        rintro e w1 ⟨rfl, hb⟩
        have HB1 := Lib.hid hb
        clear hb H1
        go_wp2_with fail
        all_goals (go_ret2; exact ⟨rfl, HB1.out⟩)
      · have d1 : decide (syn < 1) = false := decide_eq_false (by omega)
        have d2 : decide (3 < syn) = true := decide_eq_true hl
        go_enter Tryz.func15, Tryz.ntmps15
        go_wp2_with fail
        refine (H1.out).mono ?_
        rintro e w1 ⟨rfl, hb⟩
        have HB1 := Lib.hid hb
        clear hb H1
        go_wp2_with fail
        all_goals (go_ret2; exact ⟨rfl, HB1.out⟩)
end Go.Proofs.YtdfpnhdamkogcaaGreatDoor
