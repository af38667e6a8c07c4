/-
  What asserted comes to.
-/
import Derived.Test.YtnlbhmjgeedgpaaDoorFtE
import Derived.Test.YtnlbhmjgeedgpaaDoorFtR
import Derived.Deep.RegionHeld3
import Derived.Deep.RegionLaw
import Derived.Deep.Cut
import Derived.Deep.QuietTactic
import Derived.BigQuiet
set_option linter.unusedVariables false
set_option linter.unusedSimpArgs false
namespace Go.Proofs.YtnlbhmjgeedgpaaDoor
open Go.RowKit

def Mt.assL (k : Int) (right : List UInt8) : Option (Int × List UInt8 × List Mt.Pc) := match Mt.readAllF (Mt.splitF 42 right) with
  | none => none
  | some ps => Mt.flL k ps
theorem Mt.splitF_len (d : UInt8) : ∀ l : List UInt8, (Mt.splitF d l).length ≤ l.length + 1 ∧ ∀ p ∈ Mt.splitF d l, p.length ≤ l.length
  | [] => by simp [Mt.splitF]
  | c :: r => by
    obtain ⟨h1, h2⟩ := Mt.splitF_len d r
    by_cases h : c = d
    · simp only [Mt.splitF]; rw [if_pos h]
      refine ⟨by simp; omega, fun p hp => ?_⟩
      rcases List.mem_cons.1 hp with rfl | hp
      · simp
      · have := h2 p hp; simp; omega
    · obtain ⟨p, ps, e1, e2⟩ := Mt.split_cons_ne (r := r) h
      rw [e1] at h1 h2
      rw [e2]
      refine ⟨by simp at h1 ⊢; omega, fun q hq => ?_⟩
      rcases List.mem_cons.1 hq with rfl | hq
      · have := h2 p (by simp); simp; omega
      · have := h2 q (by simp [hq]); simp; omega
theorem Mt.readF_nil {x : List UInt8} (h : Mt.readF x = some []) : x = [] := by
  match x with
  | [] => rfl
  | c :: r =>
    exfalso
    unfold Mt.readF at h
    split at h
    · cases hr : Mt.readF r with
      | none => rw [hr] at h; cases h
      | some v => rw [hr] at h; simp at h
    · split at h
      · split at h
        · rename_i a b t
          split at h
          · rename_i hu
            rw [Mt.unhex_two'] at h hu
            cases ha : Mt.hv a.toNat with
            | none => rw [ha] at hu; cases hu
            | some xa =>
              cases hb : Mt.hv b.toNat with
              | none => rw [ha, hb] at hu; cases hu
              | some xb =>
                rw [ha, hb] at h
                cases hr : Mt.readF t with
                | none => rw [hr] at h; cases h
                | some v => rw [hr] at h; simp at h
          · cases h
        · cases h
      · cases h
theorem Mt.split_one {l : List UInt8} (h : Mt.splitF 42 l = [[]]) : l = [] := by
  match l with
  | [] => rfl
  | c :: r =>
    by_cases hc : c = 42
    · simp only [Mt.splitF] at h
      rw [if_pos hc] at h
      injection h with _ h2
      exact absurd h2 (Mt.splitF_ne 42 r)
    · obtain ⟨p, ps, _, e2⟩ := Mt.split_cons_ne (r := r) hc
      rw [e2] at h; injection h with h1; cases h1
theorem Mt.readAll_star {l : List UInt8} : Mt.readAllF (Mt.splitF 42 l) = some [[], []] ↔ l = [42] := by
  constructor
  · intro h
    have hs : Mt.splitF 42 l = [[], []] := by
      generalize Mt.splitF 42 l = xs at h
      match xs, h with
      | [], h => simp [Mt.readAllF] at h
      | [x], h =>
        simp only [Mt.readAllF] at h
        cases hx : Mt.readF x <;> rw [hx] at h <;> simp at h
      | x :: y :: t, h =>
        simp only [Mt.readAllF] at h
        cases hx : Mt.readF x with
        | none => rw [hx] at h; cases h
        | some vx =>
          cases hy : Mt.readF y with
          | none => rw [hx, hy] at h; cases h
          | some vy =>
            rw [hx, hy] at h
            match t, h with
            | [], h =>
              simp [Mt.readAllF] at h
              obtain ⟨rfl, rfl⟩ := h
              rw [Mt.readF_nil hx, Mt.readF_nil hy]
            | z :: t, h =>
              simp only [Mt.readAllF] at h
              cases hz : Mt.readF z with
              | none => rw [hz] at h; cases h
              | some vz =>
                rw [hz] at h
                cases ht : Mt.readAllF t <;> rw [ht] at h <;> simp at h
    match l with
    | [] => simp [Mt.splitF] at hs
    | c :: r =>
      by_cases hc : c = 42
      · simp only [Mt.splitF] at hs
        rw [if_pos hc] at hs
        injection hs with _ h2
        rw [hc, Mt.split_one h2]
      · obtain ⟨p, ps, _, e2⟩ := Mt.split_cons_ne (r := r) hc
        rw [e2] at hs; injection hs with h1; cases h1
  · rintro rfl; rfl
theorem Mt.readAll_length : ∀ {xs vs : List (List UInt8)}, Mt.readAllF xs = some vs → vs.length = xs.length
  | [], vs, h => by simp [Mt.readAllF] at h; subst h; rfl
  | x :: r, vs, h => by
    simp only [Mt.readAllF] at h
    cases hx : Mt.readF x with
    | none => rw [hx] at h; cases h
    | some v =>
      rw [hx] at h
      cases hr : Mt.readAllF r with
      | none => rw [hr] at h; cases h
      | some l =>
        rw [hr] at h
        simp at h
        subst h
        simp [Mt.readAll_length hr]
theorem hasStrs_of {w : World} {base : Nat} {a : Option Addr} {n c : Nat} {vs : List (List UInt8)} (h : IsOwn 9 1 base w (.slice a n c) n (strC vs)) (hn : vs.length = n) (h0 : 0 < n) : ∃ g off, a = some ⟨g, off, none⟩ ∧ HasStrs w g off vs := by
  obtain ⟨g, hg, hrw⟩ := h
  obtain ⟨off, cap, hsl, _, hlt, hcell⟩ := hrw.cell h0
  have ha : a = some ⟨g, off, none⟩ := by injection hsl
  refine ⟨g, off, ha, hlt, fun j hj => ?_⟩
  have hj2 : j < (strC vs).length := by rw [strC_len]; exact hj
  rw [hcell j hj2]
  simp [strC]
theorem hasStrs_alloc (w : World) (ps : List ByteArray) : HasStrs (w.alloc (.cells (ps.map Value.string).toArray 9)) w.heap.size 0 (ps.map (·.data.toList)) := by
  have h := heap_alloc_new w (.cells (ps.map Value.string).toArray 9)
  refine ⟨lt_of_block h, fun j hj => ?_⟩
  have hj2 : j < ps.length := by simpa using hj
  rw [cell_of_row _ _ _ _ _ _ h]
  simp [hj2]
  rfl
theorem splitStar_any (l : List UInt8) (hs : l.length ≤ 1000000) (w : World) : Calls Tryd.prog 74 #[.string (Mt.str l), .string ⟨#[42]⟩] w fun e w' =>
    e = .returned (.slice (some ⟨w.heap.size, 0, none⟩) (Mt.splitF 42 l).length (Mt.splitF 42 l).length) ∧ HasStrs w' w.heap.size 0 (Mt.splitF 42 l) ∧ Below w.heap.size w w' := by
  obtain ⟨ps, h1, h2⟩ := split_star (Mt.str l) (by rw [Mt.str_size]; omega) w
  rw [Mt.str_data] at h1
  refine h2.mono ?_
  rintro e w' ⟨rfl, rfl⟩
  have hl : ps.length = (Mt.splitF 42 l).length := by rw [← h1]; simp
  refine ⟨by rw [hl], ?_, (Below.refl _ _).alloc (Nat.le_refl _) _⟩
  rw [← h1]; exact hasStrs_alloc w ps
/-- What asserted answers. -/
def AssP (w : World) (R : Option (Int × List UInt8 × List Mt.Pc)) (e : Ending) (w' : World) : Prop := Below w.heap.size w w' ∧ match R with
  | none => ∃ (k : Int) (a : Option Addr) (n c : Nat), e = .returned (.tuple #[.agg #[.int .i64 k, .string ⟨#[]⟩, .string ⟨#[]⟩, .slice a n c, .slice none 0 0], .bool false])
  | some (k, v, q) => ∃ a c, e = .returned (.tuple #[.agg #[.int .i64 k, .string ⟨#[]⟩, .string (Mt.str v), .slice a q.length c, .slice none 0 0], .bool true]) ∧ IsOwn 53 2 w.heap.size w' (.slice a q.length c) q.length (pcsC q)
theorem assP_none {w w' : World} {R : Option (Int × List UInt8 × List Mt.Pc)} (hR : R = none) (hb : Below w.heap.size w w') (k : Int) (a : Option Addr) (n c : Nat) : AssP w R (.returned (.tuple #[.agg #[.int .i64 k, .string ⟨#[]⟩, .string ⟨#[]⟩, .slice a n c, .slice none 0 0], .bool false])) w' := by
  subst hR; exact ⟨hb, k, a, n, c, rfl⟩
theorem assP_some {w w' : World} {R : Option (Int × List UInt8 × List Mt.Pc)} {k : Int} {v : List UInt8} {q : List Mt.Pc} {a : Option Addr} {c : Nat} (hR : R = some (k, v, q)) (hb : Below w.heap.size w w') (ho : IsOwn 53 2 w.heap.size w' (.slice a q.length c) q.length (pcsC q)) : AssP w R (.returned (.tuple #[.agg #[.int .i64 k, .string ⟨#[]⟩, .string (Mt.str v), .slice a q.length c, .slice none 0 0], .bool true])) w' := by
  subst hR; exact ⟨hb, a, c, rfl, ho⟩
theorem Tryd.szFilter : (Tryd.prog.info? 25).map (·.size) = some 5 := by kernel_rfl
set_option maxRecDepth 100000 in
set_option maxHeartbeats 1000000 in
theorem asserted10_any (k : Int) (l : List UInt8) (hs : l.length ≤ 100000) (w : World) : Calls Tryd.prog 62 #[.int .i64 k, .string (Mt.str l)] w (AssP w (Mt.assL k l)) := by
  obtain ⟨R, hR⟩ : ∃ R, Mt.assL k l = R := ⟨_, rfl⟩
  rw [hR]
  have hsl := Mt.splitF_len 42 l
  have HSP := Lib.hid (fun u => splitStar_any l (by omega) u)
  have HRA := Lib.hid (fun b off cap u h => readAll10_any (Mt.splitF 42 l) b off cap (by omega) (fun p hp => Nat.le_trans (hsl.2 p hp) (by omega)) u h)
  have hst := Mt.readAll_star (l := l)
  obtain ⟨m, hm⟩ : ∃ m, (Mt.splitF 42 l).length = m := ⟨_, rfl⟩
  unfold Mt.assL at hR
  obtain ⟨V, hV⟩ : ∃ V, Mt.readAllF (Mt.splitF 42 l) = V := ⟨_, rfl⟩
  have HVV := Lib.hid hV
  rw [hV] at hR HRA hst
  rw [hm] at HSP HRA
  obtain ⟨s, hss⟩ : ∃ s, Mt.str l = s := ⟨_, rfl⟩
  have hsd : s.toList = l := by rw [← hss, ByteArray.toList_eq, Mt.str_data]
  obtain ⟨w1, hw1⟩ : ∃ u, w.alloc (.cells #[.int .i64 0, .string ⟨#[]⟩, .string ⟨#[]⟩, .slice none 0 0, .slice none 0 0] 25) = u := ⟨_, rfl⟩
  have hg1 : w1.heap[w.heap.size]? = some (.cells #[.int .i64 0, .string ⟨#[]⟩, .string ⟨#[]⟩, .slice none 0 0, .slice none 0 0] 25) := by rw [← hw1]; exact heap_alloc_new w _
  have hb1 : Below w.heap.size w w1 := by rw [← hw1]; exact (Below.refl _ w).alloc (Nat.le_refl _) _
  have HG1 := Lib.hid hg1
  have HB1 := Lib.hid hb1
  have HSD := Lib.hid hsd
  rw [hss] at HSP ⊢
  have HR := Lib.hid hR
  have HST := Lib.hid hst
  have HMM := Lib.hid hm
  have HMX : Hid (m ≤ 100001) := Lib.hid (by rw [← hm]; omega)
  clear hR hst hsl hV hss hm hsd hg1 hb1
  go_enter Tryd.func62, Tryd.ntmps62
  go_upto_region 1 with fail
  clear hw1
  go_wp2_with fail
  refine (HSP.out _).mono ?_
  rintro e w2 ⟨rfl, hstr, hb2⟩
  have HS2 := Lib.hid hstr
  have HB2 := Lib.hid (HB1.out.trans (hb2.mono HB1.out.size))
  have HG2 := Lib.hid ((hb2.block _ (lt_of_block HG1.out)).trans HG1.out)
  clear hstr hb2
  go_wp2_with fail
  refine (HRA.out _ _ _ _ HS2.out).mono ?_
  rintro e w3 ⟨hb3, hv⟩
  have HB3 := Lib.hid (HB2.out.trans (hb3.mono HB2.out.size))
  have HG3 := Lib.hid ((hb3.block _ (lt_of_block HG2.out)).trans HG2.out)
  clear HG1 HB1 HS2
  cases V with
  | none =>
    simp only at hv
    subst hv
    have HN : Hid (R = none) := Lib.hid HR.out.symm
    obtain ⟨⟨x0, x1, x2, x3, x4⟩, f0, f1, f2, f3, f4⟩ := box5F HG3.out
    clear hb3
    go_wp2_with fail
    refine ret5 rfl w.heap.size _ _ _ _ _ _ rfl rfl rfl Tryd.underlying25 Tryd.szFilter HG3.out ?_
    intro w5 ho _
    exact assP_none HN.out (HB3.out.trans (ho.toBelow (by simp) HB3.out.size)) _ _ _ _
  | some vs =>
    obtain ⟨a, c, rfl, hown⟩ := hv
    have HO3 := Lib.hid (hown.mono HB2.out.size)
    have HFL : Hid (R = Mt.flL k vs) := Lib.hid HR.out.symm
    have HZS : Hid (vs = [[], []] ↔ l = [42]) := Lib.hid ⟨fun e => HST.out.1 (by rw [e]), fun e => by have := HST.out.2 e; injection this⟩
    have HMN : Hid (vs.length = m) := Lib.hid ((Mt.readAll_length HVV.out).trans HMM.out)
    have HM1 : Hid (0 < m) := Lib.hid (by rw [← HMM.out]; exact List.length_pos_iff.2 (Mt.splitF_ne 42 l))
    clear HST HR hb3 hown HVV
    obtain ⟨⟨x0, x1, x2, x3, x4⟩, f0, f1, f2, f3, f4⟩ := box5F HG3.out
    obtain ⟨n, hn⟩ : ∃ n, vs.length = n := ⟨_, rfl⟩
    have HVN := Lib.hid hn
    rw [hn]
    clear hn
    by_cases h1 : n = 1
    · -- one part
      have HF1 : Hid (R = some (k, vs.headD [], [])) := Lib.hid (by
        rw [HFL.out]; unfold Mt.flL; rw [if_pos (HVN.out.trans h1)])
      obtain ⟨v0, hv0⟩ : ∃ v, vs = [v] := by
        have := HVN.out
        match vs, this with
        | [v], _ => exact ⟨v, rfl⟩
        | [], e => simp at e; omega
        | a :: b :: t, e => simp at e; omega
      subst hv0
      subst h1
      obtain ⟨g, hg, hrw⟩ := HO3.out
      obtain ⟨off, cap, hsl, _, hlt, hcell⟩ := hrw.cell (by simp)
      have ha : a = some ⟨g, off, none⟩ := by injection hsl
      subst ha
      have hc0 : w3.cell? ⟨g, off, none⟩ = some (.string (Mt.str v0)) := by
        have := hcell 0 (by simp [strC])
        rw [Nat.add_zero] at this
        rw [this]; rfl
      clear hsl hcell hrw
      obtain ⟨zk, hzk⟩ : ∃ z, (k != 3) = z := ⟨_, rfl⟩
      cases zk
      all_goals
        go_wp2_with fail
        refine ret5 rfl w.heap.size _ _ _ _ _ _ rfl rfl rfl Tryd.underlying25 Tryd.szFilter HG3.out ?_
        intro w5 ho _
        exact assP_some (q := []) HF1.out (HB3.out.trans (ho.toBelow (by simp) HB3.out.size)) (IsOwn.nil _ _ _ _)
    · have hn1 : 1 < n := by have e1 := HMN.out; have e2 := HM1.out; have e3 := HVN.out; omega
      have hnx : n ≤ 100001 := by have e1 := HMN.out; have e2 := HMX.out; have e3 := HVN.out; omega
      have hne1 : ((n : Int) == 1) = false := by simp; omega
      have hgt1 : decide ((1 : Int) < (n : Int)) = true := decide_eq_true (by omega)
      by_cases hk : k = 3
      · subst hk
        by_cases hz : l = [42]
        · have HF1 : Hid (R = some (7, [], [])) := Lib.hid (by
            rw [HFL.out]; unfold Mt.flL; rw [if_neg (by rw [HVN.out]; omega), if_neg (by decide), if_pos (HZS.out.2 hz)])
          have hA : s.toList = [42] := HSD.out.trans hz
          have hB : (s.toList == [42]) = true := by rw [hA]; rfl
          clear hz
          go_wp2_with fail
          refine ret5 rfl w.heap.size _ _ _ _ _ _ rfl rfl rfl Tryd.underlying25 Tryd.szFilter HG3.out ?_
          intro w5 ho _
          exact assP_some (v := []) (q := []) HF1.out (HB3.out.trans (ho.toBelow (by simp) HB3.out.size)) (IsOwn.nil _ _ _ _)
        · have HF1 : Hid (R = if Mt.soundB (Mt.piecesL vs) = true then some (4, [], Mt.piecesL vs) else none) := Lib.hid (by
            rw [HFL.out]; unfold Mt.flL; rw [if_neg (by rw [HVN.out]; omega), if_neg (by decide), if_neg (fun e => hz (HZS.out.1 e))])
          have hA : ¬ s.toList = [42] := fun e => hz (HSD.out.symm.trans e)
          have hB : (s.toList == [42]) = false := by simpa using hA
          obtain ⟨g, off, rfl, hhs⟩ := hasStrs_of HO3.out rfl (by rw [HVN.out]; omega)
          have HPO := Lib.hid (fun cap => piecesOf10_any vs g off cap (by rw [HVN.out]; omega) w3 hhs)
          rw [HVN.out] at HPO
          have hpl := (Mt.pcsF_len vs.length vs 0).1
          have HPL : Hid ((Mt.piecesL vs).length ≤ 9223372036854775807) := Lib.hid (by unfold Mt.piecesL; rw [HVN.out] at hpl ⊢; omega)
          clear hz hhs hpl
          go_wp2_with fail
          refine (HPO.out _).mono ?_
          rintro e w4 ⟨hb4, a4, c4, rfl, ho4⟩
          have HB4 := Lib.hid (HB3.out.trans (hb4.mono HB3.out.size))
          have HG4 := Lib.hid ((hb4.block _ (lt_of_block HG3.out)).trans HG3.out)
          have HO4 := Lib.hid ho4
          have HLT3 := Lib.hid (lt_of_block HG3.out)
          clear hb4 ho4 x0 x1 x2 x3 x4 f0 f1 f2 f3 f4
          have HSO := Lib.hid (sound10_any (HO4.out.isPcs) HPL.out)
          obtain ⟨q, hq⟩ : ∃ q, Mt.piecesL vs = q := ⟨_, rfl⟩
          rw [hq] at HSO HO4 HF1
          rw [hq]
          clear hq HPL HPO
          go_wp2_with fail
          refine (HSO.out).mono ?_
          rintro e w5 ⟨rfl, hb5⟩
          have HB5 := Lib.hid (HB4.out.trans (hb5.mono HB4.out.size))
          have HG5 := Lib.hid ((hb5.block _ (lt_of_block HG4.out)).trans HG4.out)
          have HO5 := Lib.hid (HO4.out.below hb5)
          clear hb5
          obtain ⟨⟨x0, x1, x2, x3, x4⟩, f0, f1, f2, f3, f4⟩ := box5F HG5.out
          cases hso : Mt.soundB q with
          | false =>
            have HN : Hid (R = none) := Lib.hid (by rw [HF1.out, if_neg (by rw [hso]; decide)])
            clear hso
            go_wp2_with fail
            refine ret5 rfl w.heap.size _ _ _ _ _ _ rfl rfl rfl Tryd.underlying25 Tryd.szFilter HG5.out ?_
            intro w6 ho _
            exact assP_none HN.out (HB5.out.trans (ho.toBelow (by simp) HB5.out.size)) _ _ _ _
          | true =>
            have HN : Hid (R = some (4, [], q)) := Lib.hid (by rw [HF1.out, if_pos hso])
            clear hso
            go_wp2_with fail
            refine ret5 rfl w.heap.size _ _ _ _ _ _ rfl rfl rfl Tryd.underlying25 Tryd.szFilter HG5.out ?_
            intro w6 ho _
            obtain ⟨g6, hg6, hr6⟩ := HO5.out
            have hgl := HLT3.out
            exact assP_some (v := []) HN.out (HB5.out.trans (ho.toBelow (by simp) HB5.out.size)) ⟨g6, by omega, hr6.other ho (by simp; omega)⟩
      · have hk3 : (k != 3) = true := by simpa using hk
        have HN : Hid (R = none) := Lib.hid (by
          rw [HFL.out]; unfold Mt.flL; rw [if_neg (by rw [HVN.out]; omega), if_pos hk])
        go_wp2_with fail
        refine ret5 rfl w.heap.size _ _ _ _ _ _ rfl rfl rfl Tryd.underlying25 Tryd.szFilter HG3.out ?_
        intro w5 ho _
        exact assP_none HN.out (HB3.out.trans (ho.toBelow (by simp) HB3.out.size)) _ _ _ _
end Go.Proofs.YtnlbhmjgeedgpaaDoor
