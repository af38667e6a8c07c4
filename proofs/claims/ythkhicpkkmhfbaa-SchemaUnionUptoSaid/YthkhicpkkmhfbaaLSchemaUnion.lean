/-
  SchemaUnion is proved: what must be there of two lists of classes is what must be of the one, or of the other; and nothing must and may be. Condition: what comes in is of a bulk of at most 1048576.
-/
import Derived.Test.YthkhicpkkmhfbaaRows
import Derived.Test.YthkhicpkkmhfbaaScR
import Derived.Test.YthkhicpkkmhfbaaScZa
import Derived.Test.YthkhicpkkmhfbaaScX
import Derived.ProofKit
import Derived.Deep.CondSized
import Derived.OpenShut
import Derived.ShutString
import Derived.SizedLaws
namespace Go.Proofs.Ythkhicpkkmhfbaa.schemaUnion
open Go.ChangeShapes Go.WideShapes Go.ChangeAt Go.RowKit
open Go.ChangeMaps (open_string shut_string)
set_option linter.unusedVariables false

set_option maxRecDepth 100000 in
set_option maxHeartbeats 4000000 in
theorem walk (s : Mt.Sc) (tv cv : Value) (l1 : List (List UInt8)) (v1 : Value) (l2 : List (List UInt8)) (v2 : Value) (hz : ∀ c ∈ s.classes, c.must.length + c.may.length ≤ 1048576) (hf1 : FitN l1) (hf2 : FitN l2) (w : World) (h : IsSc w tv cv s) (h1 : IsNms w v1 l1) (h2 : IsNms w v2 l2) :
    Calls Try.prog 7 #[.agg #[tv, cv], v1, v2] w fun e w' => e = .returned (.bool true) ∧ Below w.heap.size w w' := by
  have HA := Lib.hid (fun u => awake13_any u)
  have HSM := Lib.hid (fun (u : World) (hb : Below w.heap.size w u) => small13_any (h.below hb) (fun c hc => Nat.le_trans (hz c hc) (by decide)))
  have HWT := Lib.hid (fun (hk : Mt.chk s = 0) (u : World) (hb : Below w.heap.size w u) (cs : List (List UInt8)) (v : Value) (hv : IsNms u v cs) (hf : FitN cs) => wants13_any (h.below hb) hv hf (Mt.chk_names hk) (by rw [List.length_map]; have := (Mt.chk_len hk).1; omega))
  have HIN := Lib.hid (fun (hk : Mt.chk s = 0) cs => Mt.wants_in (Mt.chk_names hk) cs)
  have HTN := Lib.hid (fun x (hx : x ∈ s.types.map fun t => Mt.foldL t.name) => show x.length ≤ 140737488351232 by
    obtain ⟨t, ht, rfl⟩ := List.mem_map.1 hx
    unfold Mt.foldL; rw [List.length_map]; exact h.tnm t ht)
  have HS0 : Hid (Mt.smallS s = true → Mt.chk s = 0) := Lib.hid (fun hh => by
    unfold Mt.smallS at hh
    simp only [Bool.and_eq_true, decide_eq_true_eq] at hh
    exact hh.2)
  obtain ⟨S, hS⟩ : ∃ S, Mt.smallS s = S := ⟨_, rfl⟩
  rw [hS] at HSM HS0
  have H1 := Lib.hid h1
  have H2 := Lib.hid h2
  have HF := Lib.hid (And.intro hf1 hf2)
  obtain ⟨a1, c1, rfl, hc1, -⟩ := id h1
  obtain ⟨a2, c2, rfl, hc2, -⟩ := id h2
  have hb1 := hf1.1
  have hb2 := hf2.1
  obtain ⟨n1, hn1⟩ : ∃ n, l1.length = n := ⟨_, rfl⟩
  obtain ⟨n2, hn2⟩ : ∃ n, l2.length = n := ⟨_, rfl⟩
  rw [hn1] at H1 hc1 hb1 ⊢
  rw [hn2] at H2 hc2 hb2 ⊢
  have HN := Lib.hid (And.intro hn1 hn2)
  obtain ⟨w1, hw1⟩ : ∃ w1, w.alloc (.cells #[tv, cv] 25) = w1 := ⟨_, rfl⟩
  have hA1 : Below w.heap.size w w1 := by rw [← hw1]; exact (Below.refl _ w).alloc (Nat.le_refl _) _
  have hs1 : w1.heap.size = w.heap.size + 1 := by rw [← hw1]; simp
  have hx1 : w1.heap[w.heap.size]? = some (.cells #[tv, cv] 25) := by rw [← hw1]; exact heap_alloc_new w _
  have HA1 := Lib.hid hA1
  have HP : Hid (∀ u, Below w1.heap.size w1 u → (u.cell? ⟨w.heap.size, 0, none⟩ = some tv ∧ u.cell? ⟨w.heap.size, 1, none⟩ = some cv) ∧ Below w.heap.size w u) := Lib.hid (fun u hu => by
    have r1 := (hu.block w.heap.size (by omega)).trans hx1
    exact ⟨⟨by rw [cell_of_row _ _ _ _ _ _ r1]; rfl, by rw [cell_of_row _ _ _ _ _ _ r1]; rfl⟩, hA1.trans (hu.mono hA1.size)⟩)
  obtain ⟨p0, p1⟩ := (HP.out w1 (Below.refl _ _)).1
  clear h hx1 hA1 hz hS h1 h2 hf1 hf2 hn1 hn2
  cases S with
  | false =>
    go_enter Try.func7, Try.ntmps7
    go_wp2_with fail
    refine (HSM.out _ HA1.out).mono ?_
    rintro e w2 ⟨rfl, hb⟩
    have HB2 := Lib.hid (HA1.out.trans (hb.mono HA1.out.size))
    clear hb
    go_wp2_with fail
    refine (HA.out _).mono ?_
    rintro e w3 ⟨rfl, hb⟩
    have HB3 := Lib.hid (HB2.out.trans (hb.mono HB2.out.size))
    clear hb
    go_wp2_with fail
    all_goals (go_ret; exact ⟨rfl, HB3.out⟩)
  | true =>
    have HK0 := Lib.hid (HS0.out rfl)
    clear HS0
    by_cases h15 : 15 < n1 ∨ 15 < n2
    · by_cases hq : 15 < n1
      · have d1 : decide ((15 : Int) < (n1 : Int)) = true := decide_eq_true (by omega)
        have d2 : decide (15 < n1) = true := decide_eq_true hq
        clear h15
        go_enter Try.func7, Try.ntmps7
        go_wp2_with fail
        refine (HSM.out _ HA1.out).mono ?_
        rintro e w2 ⟨rfl, hb⟩
        have HB2 := Lib.hid (HA1.out.trans (hb.mono HA1.out.size))
        clear hb
        go_wp2_with fail
        refine (HA.out _).mono ?_
        rintro e w3 ⟨rfl, hb⟩
        have HB3 := Lib.hid (HB2.out.trans (hb.mono HB2.out.size))
        clear hb
        go_wp2_with fail
        all_goals (go_ret; exact ⟨rfl, HB3.out⟩)
      · have d1 : decide ((15 : Int) < (n1 : Int)) = false := decide_eq_false (by omega)
        have d2 : decide (15 < n1) = false := decide_eq_false hq
        have d3 : decide ((15 : Int) < (n2 : Int)) = true := decide_eq_true (by omega)
        have d4 : decide (15 < n2) = true := decide_eq_true (by omega)
        clear h15
        go_enter Try.func7, Try.ntmps7
        go_wp2_with fail
        refine (HSM.out _ HA1.out).mono ?_
        rintro e w2 ⟨rfl, hb⟩
        have HB2 := Lib.hid (HA1.out.trans (hb.mono HA1.out.size))
        clear hb
        go_wp2_with fail
        refine (HA.out _).mono ?_
        rintro e w3 ⟨rfl, hb⟩
        have HB3 := Lib.hid (HB2.out.trans (hb.mono HB2.out.size))
        clear hb
        go_wp2_with fail
        all_goals (go_ret; exact ⟨rfl, HB3.out⟩)
    have d1 : decide ((15 : Int) < (n1 : Int)) = false := decide_eq_false (by omega)
    have d2 : decide (15 < n1) = false := decide_eq_false (by omega)
    have d3 : decide ((15 : Int) < (n2 : Int)) = false := decide_eq_false (by omega)
    have d4 : decide (15 < n2) = false := decide_eq_false (by omega)
    have hn15 : n1 ≤ 15 ∧ n2 ≤ 15 := by omega
    clear h15
    go_enter Try.func7, Try.ntmps7
    go_wp2_with fail
    refine (HSM.out _ HA1.out).mono ?_
    rintro e w2 ⟨rfl, hb⟩
    have HW2 : Hid (Below w1.heap.size w1 w2) := Lib.hid hb
    clear hb p0 p1
    obtain ⟨⟨p0, p1⟩, hB⟩ := HP.out w2 HW2.out
    have HB2 := Lib.hid hB
    clear hB
    go_wp2_with fail
    refine (HWT.out HK0.out _ HB2.out l1 _ (H1.out.below HB2.out) HF.out.1).mono ?_
    rintro e w3 ⟨x1, y1, rfl, hx1, hy1, hb⟩
    have HW3 := Lib.hid (HW2.out.trans (hb.mono HW2.out.size))
    have HX1 := Lib.hid hx1
    clear hb p0 p1 hx1 hy1
    obtain ⟨⟨p0, p1⟩, hB⟩ := HP.out w3 HW3.out
    have HB3 := Lib.hid hB
    clear hB
    go_wp2_with fail
    refine (HWT.out HK0.out _ HB3.out l2 _ (H2.out.below HB3.out) HF.out.2).mono ?_
    rintro e w4 ⟨x2, y2, rfl, hx2, hy2, hb⟩
    have HX1' := Lib.hid (HX1.out.below hb)
    have HW4 := Lib.hid (HW3.out.trans (hb.mono HW3.out.size))
    have HX2 := Lib.hid hx2
    clear hb p0 p1 hx2 hy2 HX1
    obtain ⟨⟨p0, p1⟩, hB⟩ := HP.out w4 HW4.out
    have HB4 := Lib.hid hB
    clear hB
    go_upto_region 5 with fail
    have hW4d : Below w1.heap.size w1 w4.drew := HW4.out.drew
    obtain ⟨⟨p0d, p1d⟩, hB4d⟩ := HP.out _ hW4d
    have hd4 : Below w4.heap.size w4 w4.drew := (Below.refl _ w4).drew
    obtain ⟨a6, c6, w6, hrun6, own6, hb6⟩ := own_cat13 (l1 := []) (IsOwn.nil 9 1 w4.heap.size w4.drew) (Nat.le_refl _) (H1.out.below hB4d) (by rw [HN.out.1]; simp; omega)
    have hW6 : Below w1.heap.size w1 w6 := hW4d.trans (hb6.mono HW4.out.size)
    obtain ⟨⟨p06, p16⟩, hB6⟩ := HP.out _ hW6
    obtain ⟨a7, c7, w7, hrun7, own7, hb7⟩ := own_cat13 own6 hb6.size (H2.out.below hB6) (by have e1 := HN.out.1; have e2 := HN.out.2; simp; omega)
    have HW7 : Hid (Below w1.heap.size w1 w7) := Lib.hid (hW6.trans (hb7.mono HW4.out.size))
    obtain ⟨⟨p07, p17⟩, hB7⟩ := HP.out _ HW7.out
    have HY7 : Hid (Below w4.heap.size w4 w7) := Lib.hid (hd4.trans (hb6.trans hb7))
    simp only [List.length_nil, Nat.zero_add, List.nil_append] at hrun6 hrun7 own7
    rw [HN.out.1] at hrun6 hrun7
    rw [HN.out.2] at hrun7
    have hnm7 := IsOwn.nms own7
    rw [HN.out.1, HN.out.2] at hnm7
    have HCW := Lib.hid (HWT.out HK0.out _ hB7 (l1 ++ l2) _ hnm7 ⟨by rw [List.length_append, HN.out.1, HN.out.2]; omega, fun n hn => by
      rcases List.mem_append.1 hn with h | h
      · exact HF.out.1.2 n h
      · exact HF.out.2.2 n h⟩)
    clear own6 own7 hb6 hb7 hW4d hB4d hW6 hB6 hB7 hd4 hnm7
    go_region_held3 (fun w' => w'.cell? ⟨w.heap.size, 0, none⟩ = some tv ∧ w'.cell? ⟨w.heap.size, 1, none⟩ = some cv)
      (first
        | with_reducible exact ⟨p0, p1⟩
        | with_reducible exact ⟨p0d, p1d⟩
        | with_reducible exact ⟨p06, p16⟩
        | with_reducible exact ⟨p07, p17⟩
        | with_reducible exact ⟨p08, p18⟩
        | go_keep)
      (first
        | (refine step_append_eq (w := w4.drew) rfl (.const (.slice none 0 0)) (.tmp 45) 29 29 rfl _ _ (by rfl) (by rfl) hrun6 ?_)
        | (refine step_append_eq (w := w6) rfl (.tmp 46) (.tmp 47) 29 29 rfl _ _ (by rfl) (by rfl) hrun7 ?_)
        | (go_at_call 21; (with_reducible refine (HCW.out).mono ?_); rintro e w8 ⟨x3, y3, rfl, hx3, hy3, hb⟩; have HW8 := Lib.hid (HW7.out.trans (hb.mono HW7.out.size)); have HY8 := Lib.hid (HY7.out.trans (hb.mono HY7.out.size)); have HX3 := Lib.hid (And.intro hx3 hy3); clear hb hx3 hy3; obtain ⟨⟨p08, p18⟩, -⟩ := HP.out _ HW8.out))
    have HI1 := Lib.hid (HIN.out HK0.out l1)
    have HI2 := Lib.hid (HIN.out HK0.out l2)
    have HI3 := Lib.hid (HIN.out HK0.out (l1 ++ l2))
    have HUU := Lib.hid (Mt.union_mem s l1 l2)
    have HMY := Lib.hid (Mt.union_may s (l1 ++ l2))
    have HFO := Lib.hid (Mt.union_fold s (l1 ++ l2))
    have HTL : Hid ((s.types.map fun t => Mt.foldL t.name).length ≤ 128) := Lib.hid (by rw [List.length_map]; exact (Mt.chk_len HK0.out).1)
    generalize (Mt.wantsS s l1).1 = A1 at *
    generalize (Mt.wantsS s l2).1 = A2 at *
    generalize (Mt.wantsS s (l1 ++ l2)).1 = B at *
    generalize (Mt.wantsS s (l1 ++ l2)).2 = Y at *
    have hA1 : A1.length ≤ 128 := Nat.le_trans HI1.out.2.1 HTL.out
    have hA2 : A2.length ≤ 128 := Nat.le_trans HI2.out.2.1 HTL.out
    have hB : B.length ≤ 128 := Nat.le_trans HI3.out.2.1 HTL.out
    have hY : Y.length ≤ 128 := Nat.le_trans HI3.out.2.2 HTL.out
    have HTB : Hid (∀ x ∈ B, x.length ≤ 140737488351232) := Lib.hid (fun x hx => HTN.out x (HI3.out.1 x (.inl hx)))
    have HTA : Hid (∀ x, x ∈ A1 ∨ x ∈ A2 → x.length ≤ 140737488351232) := Lib.hid (fun x hx => HTB.out x ((HUU.out x).2 hx))
    have HB8 := Lib.hid (HP.out _ HW8.out).2
    have HZ1 := Lib.hid (HX1'.out.below HY8.out)
    have HZ2 := Lib.hid (HX2.out.below HY8.out)
    obtain ⟨xa, xc, rfl, hxc, HXC⟩ := id HX3.out.1
    obtain ⟨nb, hnb⟩ : ∃ n, B.length = n := ⟨_, rfl⟩
    have HNB := Lib.hid hnb
    rw [hnb] at hxc hB HX3 ⊢
    clear hnb p0 p1 p0d p1d p06 p16 p07 p17 p08 p18 hrun6 hrun7 HX1' HX2 HI1 HI2 HI3 HTN HTL HIN HWT HCW H1 H2 HF HSM HW7 HY7
    go_wp2_with fail
    go_loopw [54] (fun iv wr => ∃ i : Nat, i ≤ nb ∧ iv = .int .i64 (i : Int) ∧ Hid (Below w8.heap.size w8 wr)) (fun iv _ => nb - (intOf iv).toNat)
    case atStart => exact ⟨0, Nat.zero_le _, rfl, Lib.hid (Below.refl _ _)⟩
    case round =>
      obtain ⟨i, hi, rfl, HR⟩ := hrel
      by_cases hlt : i < nb
      · have e1 : decide ((i : Int) < (nb : Int)) = true := decide_eq_true (by omega)
        have e2 : decide (i < nb) = true := decide_eq_true hlt
        have hi1 : i < B.length := by rw [HNB.out]; exact hlt
        obtain ⟨b1, o1, e3, hb1, hc1⟩ := HXC.out i hi1
        subst e3
        have x0 := (HR.out.cell (p := ⟨b1, o1 + i, none⟩) hb1).trans hc1
        have i0 : (0 : Int) ≤ (i : Int) := by omega
        have i1 : (i : Int) < (nb : Int) := by omega
        have hmem := List.getElem_mem hi1
        have hu := (HUU.out B[i]).1 hmem
        have hy := HMY.out _ hmem
        have hf := HFO.out _ hmem
        have hl := HTB.out _ hmem
        generalize B[i] = t at *
        have HH1 := Lib.hid (fun (u : World) (hb : Below w8.heap.size w8 u) => has13_any (HZ1.out.below hb) t (by omega))
        have HH2 := Lib.hid (fun (u : World) (hb : Below w8.heap.size w8 u) => has13_any (HZ2.out.below hb) t (by omega))
        have HHY := Lib.hid (fun (u : World) (hb : Below w8.heap.size w8 u) => has13_any (HX3.out.2.below hb) t (by omega))
        have HFF := Lib.hid (fun u => rfold_any (Mt.str t) u (by rw [Mt.str_size]; exact hl))
        have ef : Mt.str ((Mt.str t).data.toList.map Mt.sm) = Mt.str t := by rw [Mt.str_data]; exact congrArg Mt.str hf
        rw [ef] at HFF
        rw [decide_eq_false hy] at HHY
        generalize Mt.str t = T at *
        have e9 : (T.toList == T.toList) = true := beq_self_eq_true _
        clear hc1 hb1 hmem hi1 hf hl ef hy
        by_cases ht1 : t ∈ A1
        · rw [decide_eq_true ht1] at HH1
          clear ht1 hu
          go_wp2_with fail
          refine (HH1.out _ HR.out).mono ?_
          rintro e w9 ⟨rfl, hb⟩
          have HR9 := Lib.hid (HR.out.trans (hb.mono HR.out.size))
          clear hb
          go_wp2_with fail
          refine (HHY.out _ HR9.out).mono ?_
          rintro e w10 ⟨rfl, hb⟩
          have HR10 := Lib.hid (HR9.out.trans (hb.mono HR9.out.size))
          clear hb
          go_wp2_with fail
          refine (HFF.out _).mono ?_
          rintro e w11 ⟨rfl, hb⟩
          have HR11 := Lib.hid (HR10.out.trans (hb.mono HR10.out.size))
          clear hb
          go_wp2_with fail
          go_roundw
          case rel => exact ⟨i + 1, by omega, by go_num, HR11⟩
          case measure => simp [intOf]; omega
        · have ht2 : t ∈ A2 := hu.resolve_left ht1
          rw [decide_eq_false ht1] at HH1
          rw [decide_eq_true ht2] at HH2
          clear ht1 hu ht2
          go_wp2_with fail
          refine (HH1.out _ HR.out).mono ?_
          rintro e w8b ⟨rfl, hb⟩
          have HR8 := Lib.hid (HR.out.trans (hb.mono HR.out.size))
          clear hb
          go_wp2_with fail
          refine (HH2.out _ HR8.out).mono ?_
          rintro e w9 ⟨rfl, hb⟩
          have HR9 := Lib.hid (HR8.out.trans (hb.mono HR8.out.size))
          clear hb
          go_wp2_with fail
          refine (HHY.out _ HR9.out).mono ?_
          rintro e w10 ⟨rfl, hb⟩
          have HR10 := Lib.hid (HR9.out.trans (hb.mono HR9.out.size))
          clear hb
          go_wp2_with fail
          refine (HFF.out _).mono ?_
          rintro e w11 ⟨rfl, hb⟩
          have HR11 := Lib.hid (HR10.out.trans (hb.mono HR10.out.size))
          clear hb
          go_wp2_with fail
          go_roundw
          case rel => exact ⟨i + 1, by omega, by go_num, HR11⟩
          case measure => simp [intOf]; omega
      · obtain rfl : i = nb := by omega
        have e1 : decide ((i : Int) < (i : Int)) = false := decide_eq_false (by omega)
        have e2 : decide (i < i) = false := decide_eq_false (by omega)
        obtain ⟨a9, c9, w9, hrun9, own9, hb9⟩ := own_cat13 (l1 := []) (IsOwn.nil 9 1 wr.heap.size wr) (Nat.le_refl _) (HZ1.out.below HR.out) (by simp; omega)
        have hR9 : Below w8.heap.size w8 w9 := HR.out.trans (hb9.mono HR.out.size)
        obtain ⟨a10, c10, w10, hrun10, own10, hb10⟩ := own_cat13 own9 hb9.size (HZ2.out.below hR9) (by simp; omega)
        have HR10 : Hid (Below w8.heap.size w8 w10) := Lib.hid (hR9.trans (hb10.mono HR.out.size))
        simp only [List.length_nil, Nat.zero_add, List.nil_append] at hrun9 hrun10 own10
        have HAB := Lib.hid (IsOwn.nms own10)
        obtain ⟨K, hK⟩ : ∃ K, (A1 ++ A2).length = K := ⟨_, rfl⟩
        have hK2 : A1.length + A2.length = K := by rw [← hK, List.length_append]
        rw [hK2] at hrun10 HAB
        have HKL := Lib.hid hK
        have hKb : K ≤ 256 := by omega
        clear own9 own10 hb9 hb10 hR9 hK hK2
        go_wp2_with (first
          | (refine wpList_append_run (w := wr) rfl (.const (.slice none 0 0)) (.tmp 80) 29 29 rfl (.slice none 0 0) x1 rfl rfl hrun9 ?_)
          | (refine wpList_append_run (w := w9) rfl (.tmp 81) (.tmp 82) 29 29 rfl (.slice a9 A1.length c9) x2 rfl rfl hrun10 ?_))
        go_loopw [85] (fun iv wr => ∃ q : Nat, q ≤ K ∧ iv = .int .i64 (q : Int) ∧ Hid (Below w10.heap.size w10 wr)) (fun iv _ => K - (intOf iv).toNat)
        case atStart => exact ⟨0, Nat.zero_le _, rfl, Lib.hid (Below.refl _ _)⟩
        case round =>
          obtain ⟨q, hq, rfl, HRQ⟩ := hrel
          have HR8 := Lib.hid (HR10.out.trans (HRQ.out.mono HR10.out.size))
          by_cases hlt3 : q < K
          · have f1 : decide ((q : Int) < (K : Int)) = true := decide_eq_true (by omega)
            have f2 : decide (q < K) = true := decide_eq_true hlt3
            have hi1 : q < (A1 ++ A2).length := by rw [HKL.out]; exact hlt3
            obtain ⟨a11, c11, e11, hc11, hcell11⟩ := HAB.out
            have ea : a10 = a11 := by injection e11
            subst ea
            obtain ⟨b1, o1, e3, hb1, hc1⟩ := hcell11.out q hi1
            subst e3
            have x0 := (HRQ.out.cell (p := ⟨b1, o1 + q, none⟩) hb1).trans hc1
            have i0 : (0 : Int) ≤ (q : Int) := by omega
            have i1 : (q : Int) < (K : Int) := by omega
            have hmem := List.mem_append.1 (List.getElem_mem hi1)
            generalize (A1 ++ A2)[q] = t at *
            have hin := (HUU.out t).2 hmem
            have HHB := Lib.hid (fun (u : World) (hb : Below w8.heap.size w8 u) => has13_any (HX3.out.1.below hb) t (by rw [HNB.out]; omega))
            rw [decide_eq_true hin] at HHB
            generalize Mt.str t = T at *
            clear hc1 hb1 hmem hi1 hin e11 hc11 hcell11
            go_wp2_with fail
            refine (HHB.out _ HR8.out).mono ?_
            rintro e w11 ⟨rfl, hb⟩
            have HR11 := Lib.hid (HRQ.out.trans (hb.mono HRQ.out.size))
            clear hb
            go_wp2_with fail
            go_roundw
            case rel => exact ⟨q + 1, by omega, by go_num, HR11⟩
            case measure => simp [intOf]; omega
          · obtain rfl : q = K := by omega
            have f1 : decide ((q : Int) < (q : Int)) = false := decide_eq_false (by omega)
            have f2 : decide (q < q) = false := decide_eq_false (by omega)
            have HBE := Lib.hid (HB8.out.trans (HR8.out.mono HB8.out.size))
            go_wp2_with fail
            refine (HA.out _).mono ?_
            rintro e w11 ⟨rfl, hb⟩
            have HB11 := Lib.hid (HBE.out.trans (hb.mono HBE.out.size))
            clear hb
            go_wp2_with fail
            all_goals (go_ret; exact ⟨rfl, HB11.out⟩)

/-! The step from the walk to the row. -/
theorem own : ownKnob Try.prog.godebug = none := by kernel_rfl
theorem laidOut : laidOutB Try.prog = true := by kernel_rfl

set_option maxRecDepth 100000 in
theorem lifted (os : Os) (started : os.Started) (H : Type) (enc : TypeId × Value → H) (F : Stop.Interp) :
    ReturnsInHanded {} Try.checked os 7 .any ((Rows.OpenSpec.upto Rows.schemaUnionSpec).pre6 enc Try.prog Try.f7 Rows.schemaUnionUptoRow.domain false) (((Rows.OpenSpec.upto Rows.schemaUnionSpec).at F).post enc Try.prog Try.f7 false true false false) := by
  refine returnsInHanded_of_cond_sized (C := Try.checked) (s := Rows.OpenSpec.upto Rows.schemaUnionSpec) (k := Rows.uptoSmall) rfl own started (by kernel_rfl) Try.func7
    (OpenSpec.witness (enc := enc) (C := Try.checked) (s := Rows.OpenSpec.upto Rows.schemaUnionSpec) (k := Rows.uptoSmall) rfl false ⟨#[], #[.agg #[.slice none 0 0, .slice none 0 0], .slice none 0 0, .slice none 0 0], []⟩ 8 (by kernel_rfl) (by kernel_rfl) (by kernel_rfl)
      (x := ([.agg [.nil, .nil], .nil, .nil], [], [])) (by kernel_rfl) rfl (by kernel_rfl)) ?_
  intro W base args ds gs before hval0 hW _ hk hsz0 _
  have hsz : (DataW.weightsEach Try.prog (Try.f7.params.toList ++ Rows.schemaUnionSpec.plain.varTypes Try.prog) (ds ++ gs)).all (· ≤ reachBytes) = true := hsz0
  have hval : ∀ (j : Nat) t v, Try.f7.params[j]? = some t → args[j]? = some v → Value.okWide Try.prog W .any base t v := hval0
  have hW' := hW
  obtain ⟨p, q, hA0, hV, rfl, _, _⟩ := hW
  have hA : DataW.TrodAll enc Try.prog W 0 (fun _ => true) true Try.f7.params.toList args.toList ds p := hA0
  rw [Try.params7] at hA hval hsz
  obtain ⟨v0, vs0, d0, ds0, p0, q0, hargs, rfl, rfl, h0, r0⟩ := trodAll_cons hA
  obtain ⟨v1, vs1, d1, ds1, p1, q1, rfl, rfl, rfl, h1, r1⟩ := trodAll_cons r0
  obtain ⟨v2, vs2, d2, ds2, p2, q2, rfl, rfl, rfl, h2, r2⟩ := trodAll_cons r1
  obtain ⟨rfl, rfl, rfl⟩ := trodAll_nil r2
  obtain rfl : args = #[v0, v1, v2] := by cases args; simp_all
  obtain ⟨rfl, rfl⟩ := trodVars_none hV
  have k0 := h0
  have lt0 : ∀ x ∈ p0, x.block < W.heap.size := by obtain ⟨m, hm⟩ := k0; exact DataW.trod_lt m _ _ _ hm
  obtain ⟨tv0, cv0, s0, rfl, w0, z0⟩ := open_schS (j := 0) (hval 0 25 v0 rfl rfl) h0 rfl rfl hsz hk
  obtain ⟨a1, n1, c1, rfl⟩ := okWide_slice Try.underlying29 (hval 1 29 v1 rfl rfl)
  have k1 := h1
  have lt1 : ∀ x ∈ p1, x.block < W.heap.size := by obtain ⟨m, hm⟩ := k1; exact DataW.trod_lt m _ _ _ hm
  obtain ⟨l1, w1, z1⟩ := open_nmsA (j := 1) h1 rfl rfl hsz
  obtain ⟨a2, n2, c2, rfl⟩ := okWide_slice Try.underlying29 (hval 2 29 v2 rfl rfl)
  have k2 := h2
  have lt2 : ∀ x ∈ p2, x.block < W.heap.size := by obtain ⟨m, hm⟩ := k2; exact DataW.trod_lt m _ _ _ hm
  obtain ⟨l2, w2, z2⟩ := open_nmsA (j := 2) h2 rfl rfl hsz
  clear hA0 hval0
  simp only [List.append_nil] at hW'
  refine (walk s0 tv0 cv0 l1 (.slice a1 n1 c1) l2 (.slice a2 n2 c2) z0 z1 z2 W w0 w1 w2).mono fun e W' ⟨he, bel⟩ => ?_
  subst he
  exact ⟨_, rfl, _, _, _, [], _, [], hW', trodAll_mk1 (shut_bool Try.underlying4 _), (trodAll_cons_mk (Below.trod laidOut (by kernel_rfl) (of_decide_eq_true (by kernel_rfl)) k0 bel lt0) (trodAll_cons_mk (Below.trod laidOut (by kernel_rfl) (of_decide_eq_true (by kernel_rfl)) k1 bel lt1) (trodAll_cons_mk (Below.trod laidOut (by kernel_rfl) (of_decide_eq_true (by kernel_rfl)) k2 bel lt2) trodAll_mk0))), rfl, bel.frame _, fun h => by cases h⟩

theorem proved : Rows.SchemaUnionUptoSaid :=
  OpenClaim.holds_of_cond 7 Try.f7 rfl rfl rfl rfl rfl rfl rfl ⟨rfl, rfl, rfl, rfl, rfl⟩ rfl rfl rfl rfl rfl (by kernel_rfl) Try.func7 (by kernel_rfl)
    (of_decide_eq_true (by kernel_rfl)) (by unfold Func.isWrapper; first | (rw [if_pos (by decide +kernel)]; kernel_rfl) | (rw [if_neg (by decide +kernel)]; exact ⟨rfl, rfl⟩))
    (fun os started H enc _ F => lifted os started H enc F)

#print axioms proved
end Go.Proofs.Ythkhicpkkmhfbaa.schemaUnion
