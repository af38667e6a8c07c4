/-
  Some texts of one proof, one behind the other.
-/
import Derived.Test.YtngdbhncafnliaaGreatPk1
import Derived.Test.YtngdbhncafnliaaGreatPk7
import Derived.Test.YtngdbhncafnliaaGreatPk17
import Derived.Test.YtngdbhncafnliaaGreatPk20
import Derived.Test.YtngdbhncafnliaaGreatPk23
set_option linter.unusedVariables false
set_option linter.unusedSimpArgs false

/-
  What the calls dn.spelt and normal come to.
-/
namespace Go.Proofs.YtngdbhncafnliaaGreat
open Go.RowKit

/-- An RDN of a size that can be printed. -/
def Mt.GoodR (r : List Mt.Av) : Prop := r.length ≤ 8 ∧ ∀ a ∈ r, a.1.length ≤ 32 ∧ a.2.length ≤ 4096
theorem txs_take {r : List Mt.Av} (f : Mt.Av → List UInt8) (k : Nat) (h : k < r.length) : txs ((r.map f).take (k + 1)) = txs ((r.map f).take k) ++ [.string (Mt.str (f r[k]))] := by
  have e : (r.map f).take (k + 1) = (r.map f).take k ++ [f r[k]] := by
    rw [List.take_succ_eq_append_getElem (by simpa using h)]; simp
  rw [e, txs_append]; rfl

set_option maxRecDepth 100000 in
set_option maxHeartbeats 1000000 in
theorem spelt_any {w : World} {v : Value} {r : List Mt.Av} (hv : IsAvs w v r) (hg : Mt.GoodR r) :
    Calls Tryz.prog 57 #[v] w fun e w' => ∃ x, e = .returned x ∧ IsTx w' x (Mt.speltL r) ∧ Below w.heap.size w w' := by
  obtain ⟨i0, hi, hz0, hz1, hz2⟩ := info_parts Tryz.infoStr
  have HI := Lib.hid (And.intro hi (And.intro hz0 (And.intro hz1 hz2)))
  clear hi hz0 hz1 hz2
  obtain ⟨a, cap, rfl, hn, hcap, hcell⟩ := hv
  have HX : Hid (∀ j (hj : j < r.length), ∃ b off, a = some ⟨b, off, none⟩ ∧ ∀ u, Below w.heap.size w u → u.cell? ⟨b, off + j * 2, none⟩ = some (.string (Mt.str r[j].1)) ∧ u.cell? ⟨b, off + j * 2 + 1, none⟩ = some (.string (Mt.str r[j].2))) := by
    intro j hj
    rcases hcell with h | ⟨b, off, h1, h2, h3⟩
    · subst h; simp at hj
    · exact ⟨b, off, h1, fun u hu => ⟨(hu.cell (p := ⟨b, off + j * 2, none⟩) h2).trans (h3 j hj).1, (hu.cell (p := ⟨b, off + j * 2 + 1, none⟩) h2).trans (h3 j hj).2⟩⟩
  have HG := Lib.hid hg
  clear hcell hg
  go_enter Tryz.func57, Tryz.ntmps57
  go_wp2_with fail
  go_loopw [3, 8] (fun v i wr => ∃ (k : Nat) (a2 : Option Addr) (c2 : Nat), i = .int .i64 k ∧ v = .slice a2 k c2 ∧ k ≤ r.length ∧ Hid (IsOwn 9 1 w.heap.size wr (.slice a2 k c2) k (txs ((r.map Mt.avL).take k))) ∧ Hid (Below w.heap.size w wr))
    (fun _ i _ => r.length - (intOf i).toNat)
  case atStart => exact ⟨0, none, 0, rfl, rfl, Nat.zero_le _, Lib.hid (IsOwn.nil _ _ _ _), Lib.hid (Below.refl _ _)⟩
  case round =>
    obtain ⟨k, a2, c2, rfl, rfl, hk, HO, HB⟩ := hrel
    by_cases hlt : k < r.length
    · obtain ⟨b, off, rfl, hload⟩ := HX.out k hlt
      obtain ⟨hl0, hl1⟩ := hload wr HB.out
      have hgr := HG.out.2 _ (List.getElem_mem hlt)
      have HTK := Lib.hid (txs_take (r := r) Mt.avL k hlt)
      obtain ⟨av, hav⟩ : ∃ av, r[k] = av := ⟨_, rfl⟩
      have HAVL : Hid (Mt.str av.1 ++ ⟨#[61]⟩ ++ Mt.str (Mt.wrL av.2) = Mt.str (Mt.avL av)) := Lib.hid (by
        apply ByteArray.ext; apply Array.ext'; simp [Mt.str, Mt.avL])
      have HW := Lib.hid (fun u => written_any (Mt.str av.2) u (by rw [← hav, Mt.str_size]; omega))
      rw [Mt.str_data] at HW
      rw [hav] at hl0 hl1 HTK
      have HN := Lib.hid HG.out.1
      have HPU := Lib.hid (fun (u : World) (hu : Below wr.heap.size wr u) => own_push (T := 47) (tx := 47) Tryz.underlying47 Tryz.underlying47 HI.out.1 HI.out.2.1 HI.out.2.2.1 HI.out.2.2.2 rfl (HO.out.below hu) (Nat.le_trans HB.out.size hu.size) (txs_one _) #[.string (Mt.str av.1 ++ ⟨#[61]⟩ ++ Mt.str (Mt.wrL av.2))] rfl (by simp [Value.oneCell']) (by have := HN.out; omega) (by have := HN.out; omega))
      have hb0 := (Below.refl wr.heap.size wr).alloc (Nat.le_refl _) (.cells #[.string (Mt.str av.1), .string (Mt.str av.2)] 87)
      have HBc := Lib.hid hb0.drew
      obtain ⟨p1, p2⟩ := box2_of (heap_alloc_new wr (.cells #[.string (Mt.str av.1), .string (Mt.str av.2)] 87))
      have HP := Lib.hid (fun (u : World) (hu : Below (wr.heap.size + 1) (wr.alloc (.cells #[.string (Mt.str av.1), .string (Mt.str av.2)] 87)).drew u) => And.intro ((hu.cell (p := ⟨wr.heap.size, 0, none⟩) (by simp)).trans ((World.cell?_drew _ _).trans p1)) ((hu.cell (p := ⟨wr.heap.size, 1, none⟩) (by simp)).trans ((World.cell?_drew _ _).trans p2)))
      have g1 : ¬ (9223372036854775807 < (Mt.str av.1).size + 1) := by rw [← hav, Mt.str_size]; omega
      have g2 : ¬ (9223372036854775807 < (Mt.str av.1).size + 1 + (Mt.str (Mt.wrL av.2)).size) := by
        have := Mt.wrF_len true r[k].2
        rw [← hav, Mt.str_size, Mt.str_size]; unfold Mt.wrL; omega
      clear hb0 hav hload hgr hcap
      go_upto_region 5 with fail
      go_region_law (first
        | (go_simp; go_at_call 59; go_must ((refine (HW.out _).mono ?_); (rintro e w2 ⟨rfl, hb⟩); (have HBc := Lib.hid (HBc.out.trans (hb.mono (by simp)))); (obtain ⟨q1, q2⟩ := HP.out _ (hb.mono (by simp))); (obtain ⟨a3, c3, w3, hrun, hown, hb3⟩ := HPU.out _ HBc.out); (have HO3 := Lib.hid hown); (have HB3 := Lib.hid ((HB.out.trans (HBc.out.mono HB.out.size)).trans hb3)); (clear hb hown hb3)))
        | (go_must (refine step_append_eq rfl _ _ 47 47 rfl _ _ (by rfl) (by rfl) hrun ?_)))
      all_goals
        have HO4 : Hid (IsOwn 9 1 w.heap.size w3 (.slice a3 (k + 1) c3) (k + 1) (txs ((r.map Mt.avL).take (k + 1)))) := Lib.hid (by
          have h := HO3.out
          rw [HAVL.out] at h
          rw [HTK.out]; exact h)
        clear hrun HO3
        go_wp2_with fail
        go_roundw
        case rel => exact ⟨k + 1, a3, c3, by go_num, rfl, by omega, HO4, HB3⟩
        case measure => simp [intOf]; omega
    · have HF : Hid ((r.map Mt.avL).take k = Mt.speltL r) := Lib.hid (by
        rw [List.take_of_length_le (by simp; omega)]; rfl)
      have hkr : k = r.length := by omega
      rw [HF.out] at HO
      have HLS : Hid ((Mt.speltL r).length = k) := Lib.hid (by rw [hkr]; simp [Mt.speltL])
      go_wp2_with fail
      go_ret
      exact ⟨_, rfl, IsOwn.tx (by rw [HLS.out]; exact HO.out), HB.out⟩
set_option maxRecDepth 100000 in
set_option maxHeartbeats 1000000 in
theorem normal_any {w : World} {v : Value} {r : List Mt.Av} (hv : IsAvs w v r) (hg : Mt.GoodR r) :
    Calls Tryz.prog 38 #[v] w fun e w' => ∃ x, e = .returned x ∧ IsTx w' x (Mt.normL r) ∧ Below w.heap.size w w' := by
  obtain ⟨i0, hi, hz0, hz1, hz2⟩ := info_parts Tryz.infoStr
  have HI := Lib.hid (And.intro hi (And.intro hz0 (And.intro hz1 hz2)))
  clear hi hz0 hz1 hz2
  obtain ⟨a, cap, rfl, hn, hcap, hcell⟩ := hv
  have HX : Hid (∀ j (hj : j < r.length), ∃ b off, a = some ⟨b, off, none⟩ ∧ ∀ u, Below w.heap.size w u → u.cell? ⟨b, off + j * 2, none⟩ = some (.string (Mt.str r[j].1)) ∧ u.cell? ⟨b, off + j * 2 + 1, none⟩ = some (.string (Mt.str r[j].2))) := by
    intro j hj
    rcases hcell with h | ⟨b, off, h1, h2, h3⟩
    · subst h; simp at hj
    · exact ⟨b, off, h1, fun u hu => ⟨(hu.cell (p := ⟨b, off + j * 2, none⟩) h2).trans (h3 j hj).1, (hu.cell (p := ⟨b, off + j * 2 + 1, none⟩) h2).trans (h3 j hj).2⟩⟩
  have HG := Lib.hid hg
  clear hcell hg
  go_enter Tryz.func38, Tryz.ntmps38
  go_wp2_with fail
  go_loopw [3, 8] (fun v i wr => ∃ (k : Nat) (a2 : Option Addr) (c2 : Nat), i = .int .i64 k ∧ v = .slice a2 k c2 ∧ k ≤ r.length ∧ Hid (IsOwn 9 1 w.heap.size wr (.slice a2 k c2) k (txs ((r.map (fun a => Mt.avL (Mt.plainA a))).take k))) ∧ Hid (Below w.heap.size w wr))
    (fun _ i _ => r.length - (intOf i).toNat)
  case atStart => exact ⟨0, none, 0, rfl, rfl, Nat.zero_le _, Lib.hid (IsOwn.nil _ _ _ _), Lib.hid (Below.refl _ _)⟩
  case round =>
    obtain ⟨k, a2, c2, rfl, rfl, hk, HO, HB⟩ := hrel
    by_cases hlt : k < r.length
    · obtain ⟨b, off, rfl, hload⟩ := HX.out k hlt
      obtain ⟨hl0, hl1⟩ := hload wr HB.out
      have hgr := HG.out.2 _ (List.getElem_mem hlt)
      have HTK := Lib.hid (txs_take (r := r) (fun a => Mt.avL (Mt.plainA a)) k hlt)
      obtain ⟨av, hav⟩ : ∃ av, r[k] = av := ⟨_, rfl⟩
      obtain ⟨A, hA⟩ : ∃ A, Mt.foldL av.1 = A := ⟨_, rfl⟩
      obtain ⟨C, hC⟩ : ∃ C, Mt.prep av.2 = C := ⟨_, rfl⟩
      have hAl : A.length = av.1.length := by rw [← hA]; simp [Mt.foldL]
      have hCl : C.length ≤ av.2.length := by rw [← hC]; exact Mt.prep_length _
      have HAVL : Hid (Mt.str A ++ ⟨#[61]⟩ ++ Mt.str (Mt.wrL C) = Mt.str (Mt.avL (Mt.plainA av))) := Lib.hid (by
        apply ByteArray.ext; apply Array.ext'; simp [Mt.str, Mt.avL, Mt.plainA, hA, hC])
      have HFO := Lib.hid (fun u => fold_any (Mt.str av.1) u (by rw [← hav, Mt.str_size]; omega))
      have hA' : List.map Mt.sm av.1 = A := hA
      rw [Mt.str_data, hA'] at HFO
      have HPR := Lib.hid (fun u => prep_any (Mt.str av.2) u (by rw [← hav, Mt.str_size]; omega))
      rw [Mt.str_data, hC] at HPR
      have HW := Lib.hid (fun u => written_any (Mt.str C) u (by rw [Mt.str_size]; rw [← hav] at hCl; omega))
      rw [Mt.str_data] at HW
      rw [hav] at hl0 hl1 HTK
      have HN := Lib.hid HG.out.1
      have HPU := Lib.hid (fun (u : World) (hu : Below wr.heap.size wr u) => own_push (T := 47) (tx := 47) Tryz.underlying47 Tryz.underlying47 HI.out.1 HI.out.2.1 HI.out.2.2.1 HI.out.2.2.2 rfl (HO.out.below hu) (Nat.le_trans HB.out.size hu.size) (txs_one _) #[.string (Mt.str A ++ ⟨#[61]⟩ ++ Mt.str (Mt.wrL C))] rfl (by simp [Value.oneCell']) (by have := HN.out; omega) (by have := HN.out; omega))
      have hb0 := (Below.refl wr.heap.size wr).alloc (Nat.le_refl _) (.cells #[.string (Mt.str av.1), .string (Mt.str av.2)] 87)
      have HBc := Lib.hid hb0.drew
      obtain ⟨p1, p2⟩ := box2_of (heap_alloc_new wr (.cells #[.string (Mt.str av.1), .string (Mt.str av.2)] 87))
      have HZ : Hid (wr.heap.size + 1 ≤ ((wr.alloc (.cells #[.string (Mt.str av.1), .string (Mt.str av.2)] 87)).drew).heap.size) := Lib.hid (by simp)
      have HPc := Lib.hid (Below.refl (wr.heap.size + 1) (wr.alloc (.cells #[.string (Mt.str av.1), .string (Mt.str av.2)] 87)).drew)
      have HP := Lib.hid (fun (u : World) (hu : Below (wr.heap.size + 1) (wr.alloc (.cells #[.string (Mt.str av.1), .string (Mt.str av.2)] 87)).drew u) => And.intro ((hu.cell (p := ⟨wr.heap.size, 0, none⟩) (by simp)).trans ((World.cell?_drew _ _).trans p1)) ((hu.cell (p := ⟨wr.heap.size, 1, none⟩) (by simp)).trans ((World.cell?_drew _ _).trans p2)))
      have g1 : ¬ (9223372036854775807 < (Mt.str A).size + 1) := by rw [Mt.str_size, hAl, ← hav]; omega
      have g2 : ¬ (9223372036854775807 < (Mt.str A).size + 1 + (Mt.str (Mt.wrL C)).size) := by
        have := Mt.wrF_len true C
        rw [Mt.str_size, Mt.str_size, hAl, ← hav]; unfold Mt.wrL; rw [← hav] at hCl; omega
      clear hb0 hA hA' hC hAl hCl hav hload hgr hcap
      go_upto_region 5 with fail
      go_region_law (first
        | (go_simp; go_at_call 41; go_must ((refine (HFO.out _).mono ?_); (rintro e w2 ⟨rfl, hb⟩); (have HPc := Lib.hid (HPc.out.trans (hb.mono (Nat.le_trans HZ.out HPc.out.size))));  (obtain ⟨q1, q2⟩ := HP.out _ HPc.out)))
        | (go_simp; go_at_call 60; go_must ((refine (HPR.out _).mono ?_); (rintro e w2 ⟨rfl, hb⟩); (have HPc := Lib.hid (HPc.out.trans (hb.mono (Nat.le_trans HZ.out HPc.out.size))));  (obtain ⟨q1, q2⟩ := HP.out _ HPc.out)))
        | (go_simp; go_at_call 59; go_must ((refine (HW.out _).mono ?_); (rintro e w2 ⟨rfl, hb⟩); (have HPc := Lib.hid (HPc.out.trans (hb.mono (Nat.le_trans HZ.out HPc.out.size)))); (obtain ⟨q1, q2⟩ := HP.out _ HPc.out)))
        | (go_must ((obtain ⟨a3, c3, w3, hrun, hown, hb3⟩ := HPU.out _ (HBc.out.trans (HPc.out.mono (Nat.le_succ _)))); (have HO3 := Lib.hid hown); (have HB3 := Lib.hid ((HB.out.trans ((HBc.out.trans (HPc.out.mono (Nat.le_succ _))).mono HB.out.size)).trans hb3)); (refine step_append_eq rfl _ _ 47 47 rfl _ _ (by rfl) (by rfl) hrun ?_))))
      all_goals
        have HO4 : Hid (IsOwn 9 1 w.heap.size w3 (.slice a3 (k + 1) c3) (k + 1) (txs ((r.map (fun a => Mt.avL (Mt.plainA a))).take (k + 1)))) := Lib.hid (by
          have h := HO3.out
          rw [HAVL.out] at h
          rw [HTK.out]; exact h)
        clear hrun HO3
        go_wp2_with fail
        go_roundw
        case rel => exact ⟨k + 1, a3, c3, by go_num, rfl, by omega, HO4, HB3⟩
        case measure => simp [intOf]; omega
    · have HF : Hid ((r.map (fun a => Mt.avL (Mt.plainA a))).take k = r.map (fun a => Mt.avL (Mt.plainA a))) := Lib.hid (by
        rw [List.take_of_length_le (by simp; omega)])
      have hkr : k = r.length := by omega
      rw [HF.out] at HO
      have HS := Lib.hid (sort_any (ls := r.map (fun a => Mt.avL (Mt.plainA a))) (base := w.heap.size) (v := .slice a2 k c2) (w := wr) (by rw [List.length_map, ← hkr]; exact HO.out) HB.out.size (by have := HG.out.1; rw [List.length_map]; omega))
      clear hkr
      go_wp2_with fail
      refine (HS.out).mono ?_
      rintro e w2 ⟨rfl, htx, hb⟩
      have HT := Lib.hid htx
      have HB2 := Lib.hid (HB.out.trans hb)
      clear htx hb
      go_wp2_with fail
      go_ret
      exact ⟨_, rfl, HT.out, HB2.out⟩
end Go.Proofs.YtngdbhncafnliaaGreat
