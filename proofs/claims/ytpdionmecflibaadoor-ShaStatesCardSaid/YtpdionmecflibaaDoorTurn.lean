/-
  What sha.turn comes to: a block turned into the words.
-/
import Derived.Test.YtpdionmecflibaaDoorSched
import Derived.StillTailTactics
import Derived.Deep.Cut
namespace Go.Proofs.YtpdionmecflibaaDoor
open Go.RowKit

/-- What the two package variables hold. -/
def Laid (w : World) : Prop :=
  (∀ i, i < 8 → w.cell? ⟨0, i, none⟩ = some (.int .u32 ((Mt.V0.list.getD i 0 : Nat) : Int))) ∧ (∀ i, i < 64 → w.cell? ⟨1, i, none⟩ = some (.int .u32 ((Mt.K.getD i 0 : Nat) : Int)))
theorem Laid.below {w u : World} {B : Nat} (h : Laid w) (hb : Below B w u) (hB : w.heap.size ≤ B) : Laid u := by
  refine ⟨fun i hi => ?_, fun i hi => ?_⟩
  · have h1 := h.1 i hi
    rw [hb.cell (p := ⟨0, i, none⟩) (Nat.lt_of_lt_of_le (World.block_lt_of_cell? w _ h1) hB)]; exact h1
  · have h1 := h.2 i hi
    rw [hb.cell (p := ⟨1, i, none⟩) (Nat.lt_of_lt_of_le (World.block_lt_of_cell? w _ h1) hB)]; exact h1

section
variable {P : Program} {ops : Array Oper}
theorem still_load {o : Oper} {a : Act} {w : World} {K : Act → Prop} (hgd : o.guard = none) (ty : TypeId) (x : Operand) (ho : o.op = .load ty x) (p : Addr) (v : Value)
    (hx : a.eval x = .pointer (some p)) (hr : (loadVar ty p).run P w = .ok v w) (h : K (a.put o.dst v)) :
    if Region.wanted o (yielded ops a.tmps) then o.still P a w K else K (a.put o.dst undef) := by
  have hw : Region.wanted o (yielded ops a.tmps) = true := by simp [Region.wanted, hgd]
  rw [if_pos hw]
  unfold Oper.still execOp
  simp only [ho, hx, Instr.loadAt, Instr.sureAddr, Sem.run_bind, Sem.run_pure, Result.andThen_ok, hr]
  exact ⟨rfl, h⟩
end

set_option maxHeartbeats 1600000 in
set_option maxRecDepth 100000 in
theorem turn_any (v : Mt.W8) (l : List UInt8) (b off cap : Nat) (w : World) (hv : v.Ok) (hg : Laid w) (hl : l.length = 64) (hcap : 64 ≤ cap) (hb : b < w.heap.size)
    (hc : ∀ i, i < 64 → w.cell? ⟨b, off + i, none⟩ = some (.int .u8 ((l.getD i 0).toNat : Int))) :
    Calls Tryd.prog 27 #[.agg v.cells, .slice (some ⟨b, off, none⟩) 64 cap] w fun e w' => e = .returned (.agg (Mt.comp v l).cells) ∧ Below w.heap.size w w' := by
  have HSCH := Lib.hid (fun A B => sched_any l b off cap ((w.alloc A).alloc B) hl hcap (by simp; omega) (fun i hi => by
    have hb0 := ((Below.refl w.heap.size w).alloc (Nat.le_refl _) A).alloc (by simp) B
    rw [hb0.cell (p := ⟨b, off + i, none⟩) hb]; exact hc i hi))
  have HG := Lib.hid hg
  have HV := Lib.hid hv
  obtain ⟨vc, hvc⟩ : ∃ vc, v.cells = vc := ⟨_, rfl⟩
  have HVC := Lib.hid hvc
  have HVS := Lib.hid (show vc.size = 8 by rw [← hvc]; rfl)
  have HV1 := Lib.hid (show vc.all (·.oneCell') = true by rw [← hvc]; exact Mt.cells32_one _)
  rw [hvc]
  obtain ⟨pc, hpc⟩ : ∃ pc, Mt.cells32 (Mt.wl l 64) = pc := ⟨_, rfl⟩
  have HPC := Lib.hid hpc
  have HPS := Lib.hid (show pc.size = 64 by rw [← hpc, Mt.cells32_size, Mt.wl_length])
  have HP1 := Lib.hid (show pc.all (·.oneCell') = true by rw [← hpc]; exact Mt.cells32_one _)
  rw [hpc] at HSCH
  clear hg hv hvc hpc hl hb hc
  go_enter Tryd.func27, Tryd.ntmps27
  go_wp2_with fail
  refine (HSCH.out _ _).mono ?_
  rintro e w1 ⟨rfl, hb1⟩
  have hs1 := hb1.size
  have hbox : w1.heap[w.heap.size]? = some (.cells vc 57 (0, 0)) := by rw [hb1.block _ (by simp <;> omega), heap_alloc2_old]
  have hres : ∃ old, w1.heap[w.heap.size + 1]? = some (.cells old 57 (0, 0)) ∧ old.size = 8 := ⟨_, by rw [hb1.block _ (by simp <;> omega), heap_alloc2_new], rfl⟩
  have hbw : Below w.heap.size w w1 := (((Below.refl _ _).alloc (Nat.le_refl _) _).alloc (by simp) _).trans (hb1.mono (by simp; omega))
  obtain ⟨old, hres, hold⟩ := hres
  have hs1' : w.heap.size + 2 ≤ w1.heap.size := by simpa using hs1
  have HBOX := Lib.hid hbox
  have HRES := Lib.hid hres
  have HOLD := Lib.hid hold
  have HBW := Lib.hid hbw
  clear hs1 hb1 hbox hres hold hbw HSCH
  go_upto_region 2 with (refine wpList_store_row rfl 71 (.tmp 5) (.tmp 10) rfl w1.heap.size pc rfl rfl 71 _ (heap_alloc_new _ _) (by rw [HPS.out]; exact Tryd.sz64) (by rw [HPS.out]; rfl) HP1.out ?_)
  refine wp_world (fun u => u.heap.size = w1.heap.size + 1 ∧ Below w.heap.size w u ∧ u.heap[w.heap.size]? = some (.cells vc 57 (0, 0)) ∧ u.heap[w.heap.size + 1]? = some (.cells old 57 (0, 0)) ∧ u.heap[w1.heap.size]? = some (.cells pc 71 (0, 0))) ?_ ?_
  · refine ⟨?_, ?_, ?_, ?_, ?_⟩
    · simp
    · exact below_setRow (HBW.out.alloc HBW.out.size _) HBW.out.size _
    · rw [setRow_other _ _ _ _ (by omega), heap_alloc_old _ _ (by omega)]; exact HBOX.out
    · rw [setRow_other _ _ _ _ (by omega), heap_alloc_old _ _ (by omega)]; exact HRES.out
    · exact setRow_heap _ _ _ _ _ _ (heap_alloc_new _ _)
  clear HBOX HRES HBW
  rintro u ⟨hus, hub, huv, hur, hup⟩
  have HUS := Lib.hid hus
  have HUB := Lib.hid hub
  have HUV := Lib.hid huv
  have HUR := Lib.hid hur
  have HUP := Lib.hid hup
  clear hus hub huv hur hup
  go_upto_region 3 with (first
    | (refine wpList_load_row rfl 57 (.tmp 2) rfl w.heap.size rfl 57 vc (0, 0) _ HUV.out Tryd.underlying57 rfl (by rw [HVS.out]; exact Tryd.sz8) ?_)
    | (refine wpList_store_row rfl 57 (.tmp 6) (.tmp 11) rfl u.heap.size vc rfl rfl 57 _ (heap_alloc_new _ _) (by rw [HVS.out]; exact Tryd.sz8) (by rw [HVS.out]; rfl) HV1.out ?_))
  obtain ⟨N, hN⟩ : ∃ N, u.heap.size = N := ⟨_, rfl⟩
  obtain ⟨M, hM⟩ : ∃ M, w1.heap.size = M := ⟨_, rfl⟩
  have hNM : N = M + 1 := by have := HUS.out; omega
  subst hNM
  have hMw : w.heap.size + 2 ≤ M := by omega
  rw [hM] at HUP
  refine wp_world (fun u => Below w.heap.size w u ∧ u.heap[w.heap.size]? = some (.cells vc 57 (0, 0)) ∧ u.heap[w.heap.size + 1]? = some (.cells old 57 (0, 0)) ∧ u.heap[M]? = some (.cells pc 71 (0, 0)) ∧ u.heap[M + 1]? = some (.cells vc 57 (0, 0))) ?_ ?_
  · refine ⟨below_setRow (HUB.out.alloc HUB.out.size _) HUB.out.size _, ?_, ?_, ?_, ?_⟩
    · rw [setRow_other _ _ _ _ (by omega), heap_alloc_old _ _ (by omega)]; exact HUV.out
    · rw [setRow_other _ _ _ _ (by omega), heap_alloc_old _ _ (by omega)]; exact HUR.out
    · rw [setRow_other _ _ _ _ (by omega), heap_alloc_old _ _ (by omega)]; exact HUP.out
    · rw [← hN]; exact setRow_heap _ _ _ _ _ _ (heap_alloc_new _ _)
  rw [hN, hM]
  clear HUS HUB HUV HUR HUP hs1' hN hM
  clear u
  rintro u ⟨hub, huv, hur, hup, hun⟩
  have HUB := Lib.hid hub
  have HUV := Lib.hid huv
  have HUR := Lib.hid hur
  have HUP := Lib.hid hup
  have HUN : Hid (u.heap[M + 1]? = some (.cells (Mt.runs Mt.K (Mt.wl l 64) v 0).cells 57 (0, 0))) := Lib.hid (by rw [hun, ← HVC.out]; rfl)
  clear hub huv hur hup hun
  go_wp2_with fail
  go_loopw [12] (fun i wr => ∃ k : Nat, k ≤ 64 ∧ i = .int .i64 k ∧ Hid (Below w.heap.size w wr) ∧ Hid (wr.heap[w.heap.size]? = some (.cells vc 57 (0, 0))) ∧ Hid (wr.heap[w.heap.size + 1]? = some (.cells old 57 (0, 0))) ∧ Hid (wr.heap[M]? = some (.cells pc 71 (0, 0))) ∧
      Hid (wr.heap[M + 1]? = some (.cells (Mt.runs Mt.K (Mt.wl l 64) v k).cells 57 (0, 0)))) (fun i _ => 64 - (intOf i).toNat)
  case atStart => exact ⟨0, by omega, rfl, HUB, HUV, HUR, HUP, HUN⟩
  case round =>
    clear HUB HUV HUR HUP HUN
    clear u
    obtain ⟨k, hk, rfl, HB, HV0, HR0, HP0, HN0⟩ := hrel
    by_cases hlt : k < 64
    · have hlt' : (k : Int) < 64 := by omega
      have hgl := (HG.out.below HB.out (Nat.le_refl _)).2 k hlt
      have hpl : wr.cell? ⟨M, k, none⟩ = some (.int .u32 (((Mt.wl l 64).getD k 0 : Nat) : Int)) := by
        rw [cell_of_row _ _ _ _ _ _ HP0.out, ← HPC.out]
        exact Mt.cells32_get _ _ (by rw [Mt.wl_length]; exact hlt)
      have HROK := Lib.hid (Mt.runs_ok Mt.K (Mt.wl l 64) HV.out k)
      have HRN := Lib.hid (show Mt.runs Mt.K (Mt.wl l 64) v (k + 1) = Mt.rnd (Mt.runs Mt.K (Mt.wl l 64) v k) (Mt.K.getD k 0 + (Mt.wl l 64).getD k 0) from rfl)
      generalize Mt.runs Mt.K (Mt.wl l 64) v k = V at HN0 HROK HRN
      generalize Mt.K.getD k 0 = x at hgl HRN
      generalize (Mt.wl l 64).getD k 0 = y at hpl HRN
      have HVC1 := Lib.hid (Mt.W8.cells_size V)
      have HWR := Lib.hid (show IntKind.u32.wrap ((x : Int) + (y : Int)) = (((x + y) % 4294967296 : Nat) : Int) by rw [IntKind.wrap_u32']; omega)
      have hMl : M + 1 < wr.heap.size := by
        rcases Nat.lt_or_ge (M + 1) wr.heap.size with h | h
        · exact h
        · have h2 := HN0.out; rw [Array.getElem?_eq_none h] at h2; cases h2
      have hld : (loadVar 57 ⟨M + 1, 0, none⟩).run Tryd.prog wr.drew = .ok (.agg V.cells) wr.drew := run_loadVar_row wr.drew (M + 1) 57 57 V.cells (0, 0) _ HN0.out Tryd.underlying57 rfl (by rw [Mt.W8.cells_size]; exact Tryd.sz8)
      have HLD := Lib.hid hld
      clear hld
      go_wp2_with fail
      refine wp_region_still_tail 8 (by kernel_rfl) (by kernel_rfl) ?_
      simp only [List.take_succ_cons, List.take_zero, List.drop_succ_cons, List.drop_zero]
      refine wpStill_step (fun K hK => still_load rfl 57 (.tmp 6) rfl ⟨M + 1, 0, none⟩ (.agg V.cells) rfl HLD.out (hK _ ?_))
      clear hK K
      repeat still_step
      refine wpStill_nil ?_
      change wpList _ _ _ _ _ wr.drew
      rw [HWR.out]
      clear hgl hpl
      go_wp2_with fail
      refine (round_any V _ _ HROK.out (Nat.mod_lt _ (by decide))).mono ?_
      rintro e w2 ⟨rfl, hb2⟩
      have hs2 : wr.heap.size ≤ w2.heap.size := hb2.size
      have hsw := HB.out.size
      have keep : ∀ j : Nat, j < wr.heap.size → w2.heap[j]? = wr.heap[j]? := fun j hj => hb2.block j hj
      have B2 := Lib.hid (HB.out.drew.trans (hb2.mono hsw))
      have HV2 := Lib.hid (show w2.heap[w.heap.size]? = some (.cells vc 57 (0, 0)) by rw [keep _ (by omega)]; exact HV0.out)
      have HR2 := Lib.hid (show w2.heap[w.heap.size + 1]? = some (.cells old 57 (0, 0)) by rw [keep _ (by omega)]; exact HR0.out)
      have HP2 := Lib.hid (show w2.heap[M]? = some (.cells pc 71 (0, 0)) by rw [keep _ (by omega)]; exact HP0.out)
      have HN2 := Lib.hid (show w2.heap[M + 1]? = some (.cells V.cells 57 (0, 0)) by rw [keep _ (by omega)]; exact HN0.out)
      rw [Mt.rnd_mod, ← HRN.out]
      obtain ⟨V2, hV2⟩ : ∃ V2, Mt.runs Mt.K (Mt.wl l 64) v (k + 1) = V2 := ⟨_, rfl⟩
      rw [hV2]
      have HE2 := Lib.hid hV2
      clear hV2 HRN
      clear keep hb2 HB HV0 HR0 HP0 HN0 HLD
      have HC2 := Lib.hid (Mt.W8.cells_size V2)
      have HO2 := Lib.hid (Mt.cells32_one V2.list)
      go_wp2_with (refine wpList_store_row rfl 57 (.tmp 6) (.tmp 23) rfl (M + 1) V2.cells rfl rfl 57 _ HN2.out (by rw [HC2.out]; exact Tryd.sz8) (by rw [HVC1.out, HC2.out]) HO2.out ?_)
      go_roundw
      case rel =>
        refine ⟨k + 1, by omega, by go_num, Lib.hid (below_setRow B2.out (by omega) _), Lib.hid ?_, Lib.hid ?_, Lib.hid ?_, Lib.hid ?_⟩
        · rw [setRow_other _ _ _ _ (by omega)]; exact HV2.out
        · rw [setRow_other _ _ _ _ (by omega)]; exact HR2.out
        · rw [setRow_other _ _ _ _ (by omega)]; exact HP2.out
        · rw [HE2.out]; exact setRow_heap _ _ _ _ _ _ HN2.out
      case measure => simp [intOf]; omega
    · obtain rfl : k = 64 := by omega
      have hlt' : decide ((64 : Int) < 64) = false := rfl
      have HV8 := Lib.hid (show wr.heap[w.heap.size]? = some (.cells (Mt.cells32 (Mt.mixed v (Mt.runs Mt.K (Mt.wl l 64) v 64) 0)) 57 (0, 0)) by rw [HV0.out, ← HVC.out]; rfl)
      have HCO := Lib.hid (show Mt.comp v l = Mt.addW v (Mt.runs Mt.K (Mt.wl l 64) v 64) from rfl)
      obtain ⟨U, hU⟩ : ∃ U, Mt.runs Mt.K (Mt.wl l 64) v 64 = U := ⟨_, rfl⟩
      rw [hU] at HV8 HN0 HCO
      have HROU := Lib.hid (show U.Ok by rw [← hU]; exact Mt.runs_ok _ _ HV.out 64)
      clear hU HP0
      have hMl : M + 1 < wr.heap.size := by
        rcases Nat.lt_or_ge (M + 1) wr.heap.size with h | h
        · exact h
        · have h2 := HN0.out; rw [Array.getElem?_eq_none h] at h2; cases h2
      go_wp2_with fail
      go_loopw [25] (fun i wr => ∃ k : Nat, k ≤ 8 ∧ i = .int .i64 k ∧ Hid (Below w.heap.size w wr) ∧ Hid (wr.heap[w.heap.size]? = some (.cells (Mt.cells32 (Mt.mixed v U k)) 57 (0, 0))) ∧ Hid (wr.heap[w.heap.size + 1]? = some (.cells old 57 (0, 0))) ∧
          Hid (wr.heap[M + 1]? = some (.cells U.cells 57 (0, 0)))) (fun i _ => 8 - (intOf i).toNat)
      case atStart => exact ⟨0, by omega, rfl, HB, HV8, HR0, HN0⟩
      case round =>
        clear HB HV8 HR0 HN0 HV0
        obtain ⟨k, hk, rfl, HB, HV0, HR0, HN0⟩ := hrel
        by_cases hlt : k < 8
        · have hlt' : (k : Int) < 8 := by omega
          obtain ⟨hm1, hm2, hm3⟩ := Mt.mixed_step v U k hlt
          have hvk : wr.cell? ⟨w.heap.size, k, none⟩ = some (.int .u32 ((v.list.getD k 0 : Nat) : Int)) := by
            rw [cell_of_row _ _ _ _ _ _ HV0.out]; exact hm1
          have huk : wr.cell? ⟨M + 1, k, none⟩ = some (.int .u32 ((U.list.getD k 0 : Nat) : Int)) := by
            rw [cell_of_row _ _ _ _ _ _ HN0.out]
            exact Mt.cells32_get _ _ (by simpa [Mt.W8.list] using hlt)
          have hfz : wr.frozen? ⟨w.heap.size, k, none⟩ = false := frozen_of_row _ _ _ _ _ HV0.out
          have HM2 := Lib.hid hm2
          clear hm1 hm2 hm3
          generalize v.list.getD k 0 = x at hvk HM2
          generalize U.list.getD k 0 = y at huk HM2
          go_wp2_with fail
          go_region
          go_wp2_with fail
          go_roundw
          case rel =>
            refine ⟨k + 1, by omega, by go_num, Lib.hid (Below.setCell HB.out (Nat.le_refl _) _).drew, Lib.hid ?_, Lib.hid ?_, Lib.hid ?_⟩
            · have e : ((x : Int) + y) % 4294967296 = (((x + y) % 4294967296 : Nat) : Int) := by omega
              rw [heap_drew, heap_setCell_same _ _ _ _ _ _ HV0.out, e, HM2.out]
            · rw [heap_drew, heap_setCell_other _ _ _ _ (by simp)]; exact HR0.out
            · rw [heap_drew, heap_setCell_other _ _ _ _ (by simp; omega)]; exact HN0.out
          case measure => simp [intOf]; omega
        · obtain rfl : k = 8 := by omega
          have hlt' : decide ((8 : Int) < 8) = false := rfl
          have HV1' := Lib.hid (show wr.heap[w.heap.size]? = some (.cells (Mt.comp v l).cells 57 (0, 0)) by rw [HV0.out, HCO.out]; rfl)
          have HZ := Lib.hid (Mt.W8.cells_size (Mt.comp v l))
          have HZ1 := Lib.hid (Mt.cells32_one (Mt.comp v l).list)
          obtain ⟨cs, hcs⟩ : ∃ cs, (Mt.comp v l).cells = cs := ⟨_, rfl⟩
          have HZ2 : Hid (cs.all (·.oneCell') = true) := Lib.hid (by rw [← hcs]; exact HZ1.out)
          rw [hcs] at HV1' HZ
          have HE := Lib.hid hcs
          clear hcs HZ1 HV0 HN0
          go_wp2_with (first | (refine wpList_load_row rfl 57 (.tmp 2) rfl w.heap.size rfl 57 cs (0, 0) _ HV1'.out Tryd.underlying57 rfl (by rw [HZ.out]; exact Tryd.sz8) ?_) | (refine wpList_store_row rfl 57 (.tmp 4) (.tmp 37) rfl (w.heap.size + 1) cs rfl rfl 57 old HR0.out (by rw [HZ.out]; exact Tryd.sz8) (by rw [HOLD.out, HZ.out]) HZ2.out ?_))
          refine post_row rfl (w.heap.size + 1) 57 cs (0, 0) _ rfl rfl (setRow_heap _ _ _ _ _ _ HR0.out) (by rw [HZ.out]; exact Tryd.sz8) Tryd.underlying57 rfl ?_
          exact ⟨Mt.ret_agg HE.out.symm, below_setRow HB.out (by omega) _⟩

end Go.Proofs.YtpdionmecflibaaDoor
