/-
  Some texts of one proof, one behind the other.
-/
import Derived.Test.YtngdbhncafnliaaGreatPk41
import Derived.Test.YtngdbhncafnliaaGreatPk51
set_option linter.unusedVariables false
set_option linter.unusedSimpArgs false

/-
  What may be seen of attributes.
-/
namespace Go.Proofs.YtngdbhncafnliaaGreat
open Go.RowKit
set_option linter.unusedVariables false

/-- Names of a call's own hang on the blocks that are its own. -/
theorem own_far {base : Nat} {u : World} {x : Value} {ns : List (List UInt8)} (h : IsOwn 9 1 base u x ns.length (nms ns)) (u' : World) (hu : ∀ b, b < u.heap.size → base ≤ b → u'.heap[b]? = u.heap[b]?) : IsNms u' x ns := by
  obtain ⟨g, hg, h⟩ := h
  rcases h.2 with ⟨h0, rfl⟩ | ⟨off, cap, cur, e1, e2, -⟩
  · have : ns = [] := List.eq_nil_of_length_eq_zero h0
    subst this
    exact nms_none u'
  · exact IsOwn.nms ⟨g, hg, h.kept (hu g (lt_of_block e2) hg)⟩
theorem own_n {base k n c : Nat} {a : Option Addr} {u : World} {xs : List Value} (h : IsOwn 9 1 base u (.slice a k c) n xs) : k = n := by
  obtain ⟨a', c', e⟩ := h.form
  injection e
theorem Mt.filt_stepA (p : Mt.At → Bool) {l : List Mt.At} {i : Nat} (h : i < l.length) : (p l[i] = true → (l.take (i + 1)).filter p = (l.take i).filter p ++ [l[i]]) ∧ (p l[i] = false → (l.take (i + 1)).filter p = (l.take i).filter p) := by
  rw [List.take_succ_eq_append_getElem h, List.filter_append]
  exact ⟨fun hp => by simp [hp], fun hp => by simp [hp]⟩
set_option maxRecDepth 100000 in
theorem box2_at {u : World} {q : Nat} {a b : Value} (h : u.heap[q]? = some (.cells #[a, b] 49)) : u.cell? ⟨q, 0, none⟩ = some a ∧ u.cell? ⟨q, 1, none⟩ = some b := by
  constructor <;> (rw [cell_of_row _ _ _ _ _ _ h]; rfl)
set_option maxRecDepth 100000 in
set_option maxHeartbeats 4000000 in
theorem seen_of {w : World} {bv v1 v2 av : Value} {right : Int} {L : List Mt.Ru} {l : List Mt.At} (h : AboutC w bv v1 v2 right L) (hl : L.length ≤ 4398046511104) (ha : IsAts w av l) (hal : l.length * 40 ≤ 140737488355328) (hnl : ∀ a ∈ l, a.1.length ≤ 140737488351232 ∧ a.2.length ≤ 8796093022208) :
    Calls Tryz.prog 17 #[bv, v1, v2, av, .int .i64 right] w fun e w' => ∃ a n c, e = .returned (.slice a n c) ∧ AtS w.heap.size w' (.slice a n c) (l.filter fun a => Mt.allowsA L a.1) ∧ Below w.heap.size w w' := by
  have HAB := Lib.hid (h w (Below.refl _ _))
  have HAL := Lib.hid (fun (u : World) (v : Value) (hv : IsRus u v L) (a : List UInt8) (ha : a.length ≤ 140737488351232) => allows_any hv a ha hl)
  have HNL := Lib.hid hnl
  obtain ⟨aa, cap, rfl, hcap, HAS⟩ := ha
  obtain ⟨m, hm⟩ : ∃ m, l.length = m := ⟨_, rfl⟩
  have HM := Lib.hid hm
  rw [hm] at hcap hal ⊢
  clear h hl hnl hm
  go_enter Tryz.func17, Tryz.ntmps17
  go_wp2_with fail
  refine (HAB.out).mono ?_
  rintro e w2 ⟨ka, kn, kc, rfl, hr, hb⟩
  have HB2 := Lib.hid hb
  have HR2 := Lib.hid hr
  clear hb hr
  go_wp2_with fail
  go_loopw [22, 12] (fun iv ov wr => ∃ (i : Nat) (a2 : Option Addr) (n2 c2 : Nat), i ≤ m ∧ iv = .int .i64 (i : Int) ∧ ov = .slice a2 n2 c2 ∧ n2 ≤ i ∧ Hid (((l.take i).filter (fun a => Mt.allowsA L a.1)).length = n2) ∧ Hid (AtS w2.heap.size wr (.slice a2 n2 c2) ((l.take i).filter (fun a => Mt.allowsA L a.1))) ∧ Hid (Below w2.heap.size w2 wr)) (fun iv _ _ => m - (intOf iv).toNat)
  case atStart => exact ⟨0, none, 0, 0, Nat.zero_le _, rfl, rfl, Nat.le_refl _, Lib.hid (by simp), Lib.hid (by simpa using AtS.nil w2.heap.size w2), Lib.hid (Below.refl _ _)⟩
  case round =>
    obtain ⟨i, a2, n2, c2, hi, rfl, rfl, hni, HLN, HO, HW⟩ := hrel
    have HB := Lib.hid (HB2.out.trans (HW.out.mono HB2.out.size))
    by_cases hlt : i < m
    · have e1 : decide ((i : Int) < (m : Int)) = true := decide_eq_true (by omega)
      have e2 : decide (i < m) = true := decide_eq_true hlt
      have i0 : (0 : Int) ≤ (i : Int) := by omega
      have i1 : (i : Int) < (m : Int) := by omega
      have hil : i < l.length := by rw [HM.out]; exact hlt
      obtain ⟨b, off, x, e0, hbl, h0, h1, hx⟩ := HAS.out i hil
      subst e0
      have x0 := (HB.out.cell (p := ⟨b, off + i * 2, none⟩) hbl).trans h0
      have x1 := (HB.out.cell (p := ⟨b, off + i * 2 + 1, none⟩) hbl).trans h1
      have HFS := Lib.hid (Mt.filt_stepA (fun a => Mt.allowsA L a.1) hil)
      have HNI := Lib.hid (HNL.out _ (List.getElem_mem hil))
      obtain ⟨y, hy⟩ : ∃ y, l[i] = y := ⟨_, rfl⟩
      rw [hy] at x0 hx HFS HNI
      obtain ⟨nm, ns⟩ := y
      simp only at x0 hx HFS HNI
      have HXW := Lib.hid (hx.below HB.out)
      obtain ⟨xa, xc, rfl, hxc, -⟩ := id hx
      have HCL := Lib.hid (fun (u : World) (hu : Below wr.heap.size wr u) => cloneN_any (HXW.out.below hu) HNI.out.2)
      have HAW := Lib.hid (fun (u : World) (hu : Below w2.heap.size w2 u) => HAL.out u _ (HR2.out.below hu) nm HNI.out.1)
      generalize hxk : ns.length = xk at x1 HCL hxc
      have HXK := Lib.hid hxk
      clear hxk
      obtain ⟨z, hz⟩ : ∃ z, Mt.allowsA L nm = z := ⟨_, rfl⟩
      rw [hz] at HFS
      simp only [hz] at HAW
      obtain ⟨NB, hNB⟩ : ∃ b, Mt.str nm = b := ⟨_, rfl⟩
      have HNB := Lib.hid hNB
      rw [hNB] at x0
      simp only [hNB] at HAW
      obtain ⟨w5, hw5⟩ : ∃ u, wr.alloc (.cells #[.string NB, .slice xa xk xc] 49) = u := ⟨_, rfl⟩
      have hka : w5.heap[wr.heap.size]? = some (.cells #[.string NB, .slice xa xk xc] 49) := by rw [← hw5]; exact heap_alloc_new wr _
      have hba : Below wr.heap.size wr w5 := by rw [← hw5]; exact (Below.refl _ wr).alloc (Nat.le_refl _) _
      have HKR := Lib.hid hka
      have HBW := Lib.hid hba
      have HW5 := Lib.hid (HW.out.trans (hba.mono HW.out.size))
      clear hbl h0 h1 hx hil hy hz hNB hka hba
      obtain ⟨q0, q1⟩ := box2_at HKR.out
      go_upto_region 6 with fail
      clear x0 x1
      have HC5 := Lib.hid (HAW.out _ HW5.out)
      go_wp2_with fail
      refine (HC5.out).mono ?_
      rintro e w6 ⟨rfl, hb⟩
      have HW6 := Lib.hid (HW5.out.trans (hb.mono HW5.out.size))
      have HBW6 := Lib.hid (HBW.out.trans (hb.mono HBW.out.size))
      have HK6 := Lib.hid ((hb.block _ (lt_of_block HKR.out)).trans HKR.out)
      clear hb q0 q1 HC5
      cases z with
      | false =>
        have HFE := Lib.hid (HFS.out.2 rfl)
        have HL2 : Hid (((l.take (i + 1)).filter (fun a => Mt.allowsA L a.1)).length = n2) := Lib.hid (by rw [HFE.out]; exact HLN.out)
        have HO6 : Hid (AtS w2.heap.size w6 (.slice a2 n2 c2) ((l.take (i + 1)).filter (fun a => Mt.allowsA L a.1))) := Lib.hid (by rw [HFE.out]; exact HO.out.below HBW6.out)
        go_wp2_with fail
        go_roundw
        case rel => exact ⟨i + 1, a2, n2, c2, by omega, by go_num, rfl, by omega, HL2, HO6, HW6⟩
        case measure => simp [intOf]; omega
      | true =>
        have HFE := Lib.hid (HFS.out.1 rfl)
        have HL2 : Hid (((l.take (i + 1)).filter (fun a => Mt.allowsA L a.1)).length = n2 + 1) := Lib.hid (by rw [HFE.out, List.length_append, HLN.out]; rfl)
        have hd : Below w6.heap.size w6 w6.drew := (Below.refl _ w6).drew
        have HBW6d := Lib.hid (HBW6.out.trans (hd.mono HBW6.out.size))
        have HW6d := Lib.hid (HW6.out.trans (hd.mono HW6.out.size))
        have HK6d := Lib.hid ((hd.block _ (lt_of_block HK6.out)).trans HK6.out)
        have HQB : Hid (∀ u, Below w6.drew.heap.size w6.drew u → u.cell? ⟨wr.heap.size, 0, none⟩ = some (.string NB) ∧ u.cell? ⟨wr.heap.size, 1, none⟩ = some (.slice xa xk xc)) := Lib.hid (fun u hu => box2_at ((hu.block _ (lt_of_block HK6d.out)).trans HK6d.out))
        have hn40 : (n2 + 1) * 40 ≤ 140737488355328 := by omega
        have HPU : Hid (∀ (w7 : World) (k7 : Option Addr) (n7 c7 : Nat), IsOwn 9 1 w6.drew.heap.size w7 (.slice k7 n7 c7) xk (nms ns) → Below w6.drew.heap.size w6.drew w7 → ∃ a3 c3 w8, (∀ ty, (Builtin.append_ #[41, 41] ty #[.slice a2 n2 c2, .slice (some ⟨w7.heap.size, 0, none⟩) 1 1]).run Tryz.prog (w7.alloc (.cells #[.string NB, .slice k7 n7 c7] 49)) = .ok (.slice a3 (n2 + 1) c3) w8) ∧ AtS w2.heap.size w8 (.slice a3 (n2 + 1) c3) ((l.take (i + 1)).filter (fun a => Mt.allowsA L a.1)) ∧ Below w2.heap.size w2 w8 ∧ w8.heap[wr.heap.size]? = some (.cells #[.string NB, .slice xa xk xc] 49)) := Lib.hid (by
          intro w7 k7 n7 c7 hown hb
          rw [← HXK.out] at hown
          have hbw : Below wr.heap.size wr w7 := HBW6d.out.trans (hb.mono HBW6d.out.size)
          have hba := (Below.refl w7.heap.size w7).alloc (Nat.le_refl _) (.cells #[.string NB, .slice k7 n7 c7] 49)
          obtain ⟨a3, c3, w8, hrun, hat, hb8, hfar⟩ := at_push (q := w7.heap.size) (nm := nm) (x := .slice k7 n7 c7) (ns := ns) HO.out HLN.out hbw HW.out.size (fun u' hu => own_far hown u' fun b b1 b2 => hu b b1 fun _ => Nat.le_trans HBW6d.out.size b2) hn40 hba (by rw [HNB.out]; exact heap_alloc_new w7 _)
          have hlk := lt_of_block HK6d.out
          have hk7 := (hb.block _ hlk).trans HK6d.out
          exact ⟨a3, c3, w8, hrun, by rw [HFE.out]; exact hat, HW.out.trans hb8, ((hfar _ (Nat.lt_of_lt_of_le (lt_of_block hk7) hba.size) (fun _ => Nat.le_refl _)).trans (hba.block _ (lt_of_block hk7))).trans hk7⟩)
        clear hd
        go_upto_region 7 with fail
        go_region_held3 (fun w' => w'.cell? ⟨wr.heap.size, 0, none⟩ = some (.string NB) ∧ w'.cell? ⟨wr.heap.size, 1, none⟩ = some (.slice xa xk xc))
          (first
            | with_reducible exact HQB.out _ (Below.refl _ _)
            | with_reducible exact HQB.out _ HC7.out
            | with_reducible exact HQB.out _ HC7a.out
            | with_reducible exact ⟨z0, z1⟩
            | go_keep)
          (first
            | (go_at_call 33; (with_reducible refine (HCL.out _ HBW6d.out).mono ?_); rintro e w7 ⟨k7, n7, c7, rfl, hown, hb⟩; have HC7 := Lib.hid hb; have HC7a := Lib.hid (hb.alloc hb.size (.cells #[.string NB, .slice k7 n7 c7] 49)); obtain ⟨a3, c3, w8, hrun, hat, hb8, hz⟩ := HPU.out _ _ _ _ hown hb; have HO9 := Lib.hid hat; have HW8 := Lib.hid hb8; obtain ⟨z0, z1⟩ := box2_at hz; clear hb hat hb8 hz)
            | ((with_reducible refine step_append_eq (w := w7.alloc (.cells #[.string NB, .slice k7 n7 c7] 49)) ?_ (.tmp 30) (.tmp 37) 41 41 ?_ _ _ ?_ ?_ hrun ?_); (rfl); (rfl); (rfl); (rfl)))
        all_goals
          go_wp2_with fail
          go_roundw
          case rel => exact ⟨i + 1, a3, n2 + 1, c3, by omega, by go_num, rfl, by omega, HL2, HO9, HW8⟩
          case measure => simp [intOf]; omega
    · obtain rfl : i = m := by omega
      have e1 : decide ((i : Int) < (i : Int)) = false := decide_eq_false (by omega)
      have e2 : decide (i < i) = false := decide_eq_false (by omega)
      have hall : l.take i = l := List.take_of_length_le (by rw [HM.out]; exact Nat.le_refl _)
      have HEND : Hid (AtS w.heap.size wr (.slice a2 n2 c2) (l.filter (fun a => Mt.allowsA L a.1))) := Lib.hid (by
        have h9 := HO.out
        rw [hall] at h9
        exact h9.low HB2.out.size)
      clear hall
      go_wp2_with fail
      all_goals (go_ret; exact ⟨_, _, _, rfl, HEND.out, HB.out⟩)
end Go.Proofs.YtngdbhncafnliaaGreat

/-
  What may be seen, by the document; a twin of attributes.
-/
namespace Go.Proofs.YtngdbhncafnliaaGreat
open Go.RowKit
set_option linter.unusedVariables false

set_option maxRecDepth 100000 in
set_option maxHeartbeats 4000000 in
theorem rseen_of {w : World} {v1 v2 v3 v4 av : Value} {right : Int} {F : List UInt8 → Bool} {l : List Mt.At} (h : ∀ u, Below w.heap.size w u → ∀ nm : List UInt8, nm.length ≤ 140737488351232 → Calls Tryz.prog 14 #[v1, v4, v2, v3, .string (Mt.str nm), .int .i64 right] u fun e w' => e = .returned (.bool (F nm)) ∧ Below u.heap.size u w') (ha : IsAts w av l) (hal : l.length * 40 ≤ 140737488355328) (hnl : ∀ a ∈ l, a.1.length ≤ 140737488351232 ∧ a.2.length ≤ 8796093022208) :
    Calls Tryz.prog 18 #[v1, v4, v2, v3, av, .int .i64 right] w fun e w' => ∃ a n c, e = .returned (.slice a n c) ∧ AtS w.heap.size w' (.slice a n c) (l.filter fun a => F a.1) ∧ Below w.heap.size w w' := by
  have HMY := Lib.hid h
  have HNL := Lib.hid hnl
  obtain ⟨aa, cap, rfl, hcap, HAS⟩ := ha
  obtain ⟨m, hm⟩ : ∃ m, l.length = m := ⟨_, rfl⟩
  have HM := Lib.hid hm
  rw [hm] at hcap hal ⊢
  clear h hnl hm
  go_enter Tryz.func18, Tryz.ntmps18
  go_wp2_with fail
  go_loopw [18, 13] (fun iv ov wr => ∃ (i : Nat) (a2 : Option Addr) (n2 c2 : Nat), i ≤ m ∧ iv = .int .i64 (i : Int) ∧ ov = .slice a2 n2 c2 ∧ n2 ≤ i ∧ Hid (((l.take i).filter (fun a => F a.1)).length = n2) ∧ Hid (AtS w.heap.size wr (.slice a2 n2 c2) ((l.take i).filter (fun a => F a.1))) ∧ Hid (Below w.heap.size w wr)) (fun iv _ _ => m - (intOf iv).toNat)
  case atStart => exact ⟨0, none, 0, 0, Nat.zero_le _, rfl, rfl, Nat.le_refl _, Lib.hid (by simp), Lib.hid (by simpa using AtS.nil w.heap.size w), Lib.hid (Below.refl _ _)⟩
  case round =>
    obtain ⟨i, a2, n2, c2, hi, rfl, rfl, hni, HLN, HO, HB⟩ := hrel
    by_cases hlt : i < m
    · have e1 : decide ((i : Int) < (m : Int)) = true := decide_eq_true (by omega)
      have e2 : decide (i < m) = true := decide_eq_true hlt
      have i0 : (0 : Int) ≤ (i : Int) := by omega
      have i1 : (i : Int) < (m : Int) := by omega
      have hil : i < l.length := by rw [HM.out]; exact hlt
      obtain ⟨b, off, x, e0, hbl, h0, h1, hx⟩ := HAS.out i hil
      subst e0
      have x0 := (HB.out.cell (p := ⟨b, off + i * 2, none⟩) hbl).trans h0
      have x1 := (HB.out.cell (p := ⟨b, off + i * 2 + 1, none⟩) hbl).trans h1
      have HFS := Lib.hid (Mt.filt_stepA (fun a => F a.1) hil)
      have HNI := Lib.hid (HNL.out _ (List.getElem_mem hil))
      obtain ⟨y, hy⟩ : ∃ y, l[i] = y := ⟨_, rfl⟩
      rw [hy] at x0 hx HFS HNI
      obtain ⟨nm, ns⟩ := y
      simp only at x0 hx HFS HNI
      have HXW := Lib.hid hx
      obtain ⟨xa, xc, rfl, hxc, -⟩ := id hx
      have HAW := Lib.hid (fun (u : World) (hu : Below w.heap.size w u) => HMY.out u hu nm HNI.out.1)
      generalize ns.length = xk at x1 HXW hxc
      obtain ⟨z, hz⟩ : ∃ z, F nm = z := ⟨_, rfl⟩
      rw [hz] at HFS
      simp only [hz] at HAW
      obtain ⟨NB, hNB⟩ : ∃ b, Mt.str nm = b := ⟨_, rfl⟩
      have HNB := Lib.hid hNB
      rw [hNB] at x0
      simp only [hNB] at HAW
      obtain ⟨w5, hw5⟩ : ∃ u, wr.alloc (.cells #[.string NB, .slice xa xk xc] 49) = u := ⟨_, rfl⟩
      have hka : w5.heap[wr.heap.size]? = some (.cells #[.string NB, .slice xa xk xc] 49) := by rw [← hw5]; exact heap_alloc_new wr _
      have hba : Below wr.heap.size wr w5 := by rw [← hw5]; exact (Below.refl _ wr).alloc (Nat.le_refl _) _
      have HKR := Lib.hid hka
      have HBW := Lib.hid hba
      have HW5 := Lib.hid (HB.out.trans (hba.mono HB.out.size))
      clear hbl h0 h1 hx hil hy hz hNB hka hba
      obtain ⟨q0, q1⟩ := box2_at HKR.out
      go_upto_region 5 with fail
      clear x0 x1
      have HC5 := Lib.hid (HAW.out _ HW5.out)
      go_wp2_with fail
      refine (HC5.out).mono ?_
      rintro e w6 ⟨rfl, hb⟩
      have HW6 := Lib.hid (HW5.out.trans (hb.mono HW5.out.size))
      have HBW6 := Lib.hid (HBW.out.trans (hb.mono HBW.out.size))
      have HK6 := Lib.hid ((hb.block _ (lt_of_block HKR.out)).trans HKR.out)
      clear hb q0 q1 HC5
      cases z with
      | false =>
        have HFE := Lib.hid (HFS.out.2 rfl)
        have HL2 : Hid (((l.take (i + 1)).filter (fun a => F a.1)).length = n2) := Lib.hid (by rw [HFE.out]; exact HLN.out)
        have HO6 : Hid (AtS w.heap.size w6 (.slice a2 n2 c2) ((l.take (i + 1)).filter (fun a => F a.1))) := Lib.hid (by rw [HFE.out]; exact HO.out.below HBW6.out)
        go_wp2_with fail
        go_roundw
        case rel => exact ⟨i + 1, a2, n2, c2, by omega, by go_num, rfl, by omega, HL2, HO6, HW6⟩
        case measure => simp [intOf]; omega
      | true =>
        have HFE := Lib.hid (HFS.out.1 rfl)
        have HL2 : Hid (((l.take (i + 1)).filter (fun a => F a.1)).length = n2 + 1) := Lib.hid (by rw [HFE.out, List.length_append, HLN.out]; rfl)
        have hn40 : (n2 + 1) * 40 ≤ 140737488355328 := by omega
        obtain ⟨q0, q1⟩ := box2_at HK6.out
        have hba := (Below.refl w6.heap.size w6).alloc (Nat.le_refl _) (.cells #[.string NB, .slice xa xk xc] 49)
        obtain ⟨a3, c3, w8, hrun, hat, hb8, -⟩ := at_push (q := w6.heap.size) (nm := nm) (x := .slice xa xk xc) (ns := ns) HO.out HLN.out HBW6.out HB.out.size (fun u' hu => HXW.out.same fun b b1 => (hu b (Nat.lt_of_lt_of_le b1 HW6.out.size) (fun h => by omega)).trans (HW6.out.block b b1)) hn40 hba (by rw [HNB.out]; exact heap_alloc_new w6 _)
        have HO8 : Hid (AtS w.heap.size w8 (.slice a3 (n2 + 1) c3) ((l.take (i + 1)).filter (fun a => F a.1))) := Lib.hid (by rw [HFE.out]; exact hat)
        have HW8 := Lib.hid (HB.out.trans hb8)
        clear hba hat hb8
        go_upto_region 7 with (with_reducible refine oper_append22 (.tmp 30) (.tmp 32) 41 41 ?_ _ _ ?_ ?_ _ ?_ hrun ?_; rfl; simp [go_sem]; simp [go_sem]; with_reducible rfl)
        clear hrun q0 q1
        go_wp2_with fail
        go_roundw
        case rel => exact ⟨i + 1, a3, n2 + 1, c3, by omega, by go_num, rfl, by omega, HL2, HO8, HW8⟩
        case measure => simp [intOf]; omega
    · obtain rfl : i = m := by omega
      have e1 : decide ((i : Int) < (i : Int)) = false := decide_eq_false (by omega)
      have e2 : decide (i < i) = false := decide_eq_false (by omega)
      have hall : l.take i = l := List.take_of_length_le (by rw [HM.out]; exact Nat.le_refl _)
      have HEND : Hid (AtS w.heap.size wr (.slice a2 n2 c2) (l.filter (fun a => F a.1))) := Lib.hid (by
        have h9 := HO.out
        rw [hall] at h9
        exact h9)
      clear hall
      go_wp2_with fail
      all_goals (go_ret; exact ⟨_, _, _, rfl, HEND.out, HB.out⟩)
end Go.Proofs.YtngdbhncafnliaaGreat

/-
  A twin of attributes.
-/
namespace Go.Proofs.YtngdbhncafnliaaGreat
open Go.RowKit
set_option linter.unusedVariables false

theorem own_none {u : World} {g : Nat} (h : u.heap[g]? = some (.cells #[] 9)) : IsOwn 9 1 g u (.slice (some ⟨g, 0, none⟩) 0 0) 0 (nms []) :=
  ⟨g, Nat.le_refl _, rfl, .inr ⟨0, 0, _, rfl, h, Nat.le_refl _, by simp, fun j hj => absurd hj (by simp [nms])⟩⟩
set_option maxRecDepth 100000 in
set_option maxHeartbeats 4000000 in
theorem twin14_any {w : World} {av : Value} {l : List Mt.At} (ha : IsAts w av l) (hal : l.length * 40 ≤ 140737488355328) (hnl : ∀ a ∈ l, a.1.length ≤ 140737488351232 ∧ a.2.length ≤ 8796093022208) :
    Calls Tryz.prog 16 #[av] w fun e w' => ∃ a n c, e = .returned (.slice a n c) ∧ AtS w.heap.size w' (.slice a n c) l ∧ Below w.heap.size w w' := by
  have HNL := Lib.hid hnl
  obtain ⟨aa, cap, rfl, hcap, HAS⟩ := ha
  obtain ⟨m, hm⟩ : ∃ m, l.length = m := ⟨_, rfl⟩
  have HM := Lib.hid hm
  rw [hm] at hcap hal ⊢
  clear hnl hm
  go_enter Tryz.func16, Tryz.ntmps16
  go_wp2_with fail
  go_loopw [8, 3] (fun iv ov wr => ∃ (i : Nat) (a2 : Option Addr) (c2 : Nat), i ≤ m ∧ iv = .int .i64 (i : Int) ∧ ov = .slice a2 i c2 ∧ Hid (AtS w.heap.size wr (.slice a2 i c2) (l.take i)) ∧ Hid (Below w.heap.size w wr)) (fun iv _ _ => m - (intOf iv).toNat)
  case atStart => exact ⟨0, none, 0, Nat.zero_le _, rfl, rfl, Lib.hid (by simpa using AtS.nil w.heap.size w), Lib.hid (Below.refl _ _)⟩
  case round =>
    obtain ⟨i, a2, c2, hi, rfl, rfl, HO, HB⟩ := hrel
    by_cases hlt : i < m
    · have e1 : decide ((i : Int) < (m : Int)) = true := decide_eq_true (by omega)
      have e2 : decide (i < m) = true := decide_eq_true hlt
      have i0 : (0 : Int) ≤ (i : Int) := by omega
      have i1 : (i : Int) < (m : Int) := by omega
      have hil : i < l.length := by rw [HM.out]; exact hlt
      obtain ⟨b, off, x, e0, hbl, h0, h1, hx⟩ := HAS.out i hil
      subst e0
      have x0 := (HB.out.cell (p := ⟨b, off + i * 2, none⟩) hbl).trans h0
      have x1 := (HB.out.cell (p := ⟨b, off + i * 2 + 1, none⟩) hbl).trans h1
      have HTS : Hid (l.take (i + 1) = l.take i ++ [l[i]]) := Lib.hid (List.take_succ_eq_append_getElem hil)
      have HTL : Hid ((l.take i).length = i) := Lib.hid (by rw [List.length_take]; omega)
      have HNI := Lib.hid (HNL.out _ (List.getElem_mem hil))
      obtain ⟨y, hy⟩ : ∃ y, l[i] = y := ⟨_, rfl⟩
      rw [hy] at x0 hx HTS HNI
      obtain ⟨nm, ns⟩ := y
      simp only at x0 hx HTS HNI
      have HXW := Lib.hid hx
      obtain ⟨xa, xc, rfl, hxc, -⟩ := id hx
      generalize hxk : ns.length = xk at x1 hxc
      have HXK := Lib.hid hxk
      obtain ⟨NB, hNB⟩ : ∃ b, Mt.str nm = b := ⟨_, rfl⟩
      have HNB := Lib.hid hNB
      rw [hNB] at x0
      obtain ⟨w5, hw5⟩ : ∃ u, wr.alloc (.cells #[.string NB, .slice xa xk xc] 49) = u := ⟨_, rfl⟩
      have hka : w5.heap[wr.heap.size]? = some (.cells #[.string NB, .slice xa xk xc] 49) := by rw [← hw5]; exact heap_alloc_new wr _
      have hba : Below wr.heap.size wr w5 := by rw [← hw5]; exact (Below.refl _ wr).alloc (Nat.le_refl _) _
      obtain ⟨w6, hw6⟩ : ∃ u, w5.drew.alloc (.cells #[] 9) = u := ⟨_, rfl⟩
      have hd : Below w5.heap.size w5 w5.drew := (Below.refl _ w5).drew
      have hb6 : Below w5.drew.heap.size w5.drew w6 := by rw [← hw6]; exact (Below.refl _ w5.drew).alloc (Nat.le_refl _) _
      have hx6 : w6.heap[w5.drew.heap.size]? = some (.cells #[] 9) := by rw [← hw6]; exact heap_alloc_new w5.drew _
      have hw56 : Below w5.heap.size w5 w6 := hd.trans hb6
      have hwr6 : Below wr.heap.size wr w6 := hba.trans (hw56.mono hba.size)
      have hww6 : Below w.heap.size w w6 := HB.out.trans (hwr6.mono HB.out.size)
      obtain ⟨k7, c7, w7, hrun7, hown7, hb7⟩ := own_cat13 (l1 := []) (own_none hx6) (Nat.le_of_lt (lt_of_block hx6)) (hx.below hww6) (by have := HNI.out.2; simp; omega)
      have hb57 : Below w5.heap.size w5 w7 := hw56.trans (hb7.mono (show w5.heap.size ≤ w5.drew.heap.size from Nat.le_refl _))
      have hwr7 : Below wr.heap.size wr w7 := hba.trans (hb57.mono hba.size)
      rw [List.nil_append] at hown7
      simp only [List.length_nil, Nat.zero_add] at hrun7 hown7
      rw [hxk] at hrun7
      have hown7' : IsOwn 9 1 w5.drew.heap.size w7 (.slice k7 xk c7) ns.length (nms ns) := by rw [hxk] at hown7 ⊢; exact hown7
      have hba7 := (Below.refl w7.heap.size w7).alloc (Nat.le_refl _) (.cells #[.string NB, .slice k7 xk c7] 49)
      obtain ⟨a3, c3, w8, hrun8, hat, hb8, hfar⟩ := at_push (q := w7.heap.size) (nm := nm) (x := .slice k7 xk c7) (ns := ns) HO.out HTL.out hwr7 HB.out.size (fun u' hu => own_far hown7' u' fun b b1 b2 => hu b b1 fun _ => Nat.le_trans hba.size b2) (by omega) hba7 (by rw [hNB]; exact heap_alloc_new w7 _)
      have HO8 : Hid (AtS w.heap.size w8 (.slice a3 (i + 1) c3) (l.take (i + 1))) := Lib.hid (by rw [HTS.out]; exact hat)
      have HW8 := Lib.hid (HB.out.trans hb8)
      have hl5 := lt_of_block hka
      obtain ⟨q0, q1⟩ := box2_at hka
      obtain ⟨q0d, q1d⟩ := box2_at ((hd.block _ hl5).trans hka)
      obtain ⟨q06, q16⟩ := box2_at ((hw56.block _ hl5).trans hka)
      have hk7 := (hb57.block _ hl5).trans hka
      obtain ⟨q07, q17⟩ := box2_at hk7
      have hk7a := (hba7.block _ (lt_of_block hk7)).trans hk7
      obtain ⟨q07a, q17a⟩ := box2_at hk7a
      obtain ⟨q08, q18⟩ := box2_at ((hfar _ (lt_of_block hk7a) (fun _ => Nat.le_refl _)).trans hk7a)
      have HW6E := Lib.hid hw6
      clear hbl h0 h1 hx hil hy hNB hka hba hd hb6 hx6 hw56 hwr6 hww6 hown7 hb7 hb57 hwr7 hown7' hba7 hat hb8 hfar hl5 hk7 hk7a hxk
      go_upto_region 5 with fail
      clear x0 x1
      go_region_held3 (fun w' => w'.cell? ⟨wr.heap.size, 0, none⟩ = some (.string NB) ∧ w'.cell? ⟨wr.heap.size, 1, none⟩ = some (.slice xa xk xc))
        (first
          | with_reducible exact ⟨q0, q1⟩
          | with_reducible exact ⟨q0d, q1d⟩
          | with_reducible exact ⟨q06, q16⟩
          | with_reducible exact ⟨q07, q17⟩
          | with_reducible exact ⟨q07a, q17a⟩
          | with_reducible exact ⟨q08, q18⟩
          | go_keep)
        (first
          | ((with_reducible refine step_append_eq (w := w6) ?_ (.tmp 15) (.tmp 17) 47 47 ?_ _ _ ?_ ?_ hrun7 ?_); (rfl); (rfl); (rfl); (rfl))
          | ((with_reducible refine step_append_eq (w := w7.alloc (.cells #[.string NB, .slice k7 xk c7] 49)) ?_ (.tmp 12) (.tmp 20) 41 41 ?_ _ _ ?_ ?_ hrun8 ?_); (rfl); (rfl); (rfl); (rfl)))
      all_goals
        go_wp2_with fail
        go_roundw
        case rel => exact ⟨i + 1, a3, c3, by omega, by go_num, rfl, HO8, HW8⟩
        case measure => simp [intOf]; omega
    · obtain rfl : i = m := by omega
      have e1 : decide ((i : Int) < (i : Int)) = false := decide_eq_false (by omega)
      have e2 : decide (i < i) = false := decide_eq_false (by omega)
      have hall : l.take i = l := List.take_of_length_le (by rw [HM.out]; exact Nat.le_refl _)
      have HEND : Hid (AtS w.heap.size wr (.slice a2 i c2) l) := Lib.hid (by
        have h9 := HO.out
        rw [hall] at h9
        exact h9)
      clear hall
      go_wp2_with fail
      all_goals (go_ret; exact ⟨_, _, _, rfl, HEND.out, HB.out⟩)
end Go.Proofs.YtngdbhncafnliaaGreat

/-
  Whether attributes are few: some answer.
-/
namespace Go.Proofs.YtngdbhncafnliaaGreat
open Go.RowKit
set_option linter.unusedVariables false

set_option maxRecDepth 100000 in
set_option maxHeartbeats 4000000 in
theorem few14_any {w : World} {av : Value} {l : List Mt.At} (ha : IsAts w av l) (hal : l.length * 40 ≤ 140737488355328) (hnl : ∀ a ∈ l, a.1.length ≤ 140737488351232 ∧ a.2.length ≤ 8796093022208) :
    Calls Tryz.prog 15 #[av] w fun e w' => IsBoo e ∧ Below w.heap.size w w' := by
  have HNL := Lib.hid hnl
  obtain ⟨aa, cap, rfl, hcap, HAS⟩ := ha
  obtain ⟨n, hn⟩ : ∃ n, l.length = n := ⟨_, rfl⟩
  have HN := Lib.hid hn
  rw [hn] at hcap hal ⊢
  clear hnl hn
  by_cases h60 : 60 < n
  · have f1 : decide ((n : Int) > 60) = true := decide_eq_true (by omega)
    have f2 : decide (60 < n) = true := decide_eq_true h60
    have f3 : decide ((60 : Int) < (n : Int)) = true := decide_eq_true (by omega)
    go_enter Tryz.func15, Tryz.ntmps15
    go_wp2_with fail
    go_loopw [9] (fun iv wr => iv = .int .i64 0 ∧ Hid (Below w.heap.size w wr)) (fun iv _ => 0)
    case atStart => exact ⟨rfl, Lib.hid (Below.refl _ _)⟩
    case round =>
      obtain ⟨rfl, HB⟩ := hrel
      have e1 : decide ((0 : Int) < (n : Int)) = true := decide_eq_true (by omega)
      have e2 : decide (0 < n) = true := decide_eq_true (by omega)
      have i1 : (0 : Int) < (n : Int) := by omega
      have hil : 0 < l.length := by rw [HN.out]; omega
      obtain ⟨b, off, x, e0, hbl, h0, h1, hx⟩ := HAS.out 0 hil
      subst e0
      rw [Nat.zero_mul] at h0 h1
      have x0 := (HB.out.cell (p := ⟨b, off + 0, none⟩) hbl).trans h0
      have x1 := (HB.out.cell (p := ⟨b, off + 0 + 1, none⟩) hbl).trans h1
      simp only [Nat.add_zero] at x0 x1
      obtain ⟨xa, xc, rfl, hxc, -⟩ := hx
      generalize l[0] = p at *
      obtain ⟨nm, ns⟩ := p
      generalize ns.length = k at *
      generalize Mt.str nm = P at *
      have HB5 := Lib.hid (HB.out.alloc HB.out.size (.cells #[.string P, .slice xa k xc] 49))
      clear hbl h0 h1 hil
      go_wp2_with fail
      all_goals (go_ret; exact ⟨⟨_, rfl⟩, HB5.out⟩)
  · have f1 : decide ((n : Int) > 60) = false := decide_eq_false (by omega)
    have f2 : decide (60 < n) = false := decide_eq_false h60
    have f3 : decide ((60 : Int) < (n : Int)) = false := decide_eq_false (by omega)
    go_enter Tryz.func15, Tryz.ntmps15
    go_wp2_with fail
    go_loopw [9] (fun iv wr => ∃ i : Nat, i ≤ n ∧ iv = .int .i64 (i : Int) ∧ Hid (Below w.heap.size w wr)) (fun iv _ => n - (intOf iv).toNat)
    case atStart => exact ⟨0, Nat.zero_le _, rfl, Lib.hid (Below.refl _ _)⟩
    case round =>
      obtain ⟨i, hi, rfl, HB⟩ := hrel
      by_cases hlt : i < n
      · have e1 : decide ((i : Int) < (n : Int)) = true := decide_eq_true (by omega)
        have e2 : decide (i < n) = true := decide_eq_true hlt
        have i0 : (0 : Int) ≤ (i : Int) := by omega
        have i1 : (i : Int) < (n : Int) := by omega
        have hil : i < l.length := by rw [HN.out]; exact hlt
        obtain ⟨b, off, x, e0, hbl, h0, h1, hx⟩ := HAS.out i hil
        subst e0
        have hni := (HNL.out _ (List.getElem_mem hil)).2
        obtain ⟨p, hp⟩ : ∃ p, l[i] = p := ⟨_, rfl⟩
        rw [hp] at h0 hx hni
        obtain ⟨nm, ns⟩ := p
        simp only at h0 hx hni
        have x0 := (HB.out.cell (p := ⟨b, off + i * 2, none⟩) hbl).trans h0
        have x1 := (HB.out.cell (p := ⟨b, off + i * 2 + 1, none⟩) hbl).trans h1
        obtain ⟨xa, xc, rfl, hxc, HXV⟩ := hx
        obtain ⟨k, hk⟩ : ∃ k, ns.length = k := ⟨_, rfl⟩
        have HK := Lib.hid hk
        rw [hk] at x1 hxc hni
        generalize Mt.str nm = P at *
        obtain ⟨w5, hw5⟩ : ∃ u, wr.alloc (.cells #[.string P, .slice xa k xc] 49) = u := ⟨_, rfl⟩
        have hka : w5.heap[wr.heap.size]? = some (.cells #[.string P, .slice xa k xc] 49) := by rw [← hw5]; exact heap_alloc_new wr _
        have hba : Below wr.heap.size wr w5 := by rw [← hw5]; exact (Below.refl _ wr).alloc (Nat.le_refl _) _
        have HB5 := Lib.hid (HB.out.trans (hba.mono HB.out.size))
        have HX5 : Hid (∀ u, Below w5.heap.size w5 u → u.cell? ⟨wr.heap.size, 0, none⟩ = some (.string P) ∧ u.cell? ⟨wr.heap.size, 1, none⟩ = some (.slice xa k xc)) := Lib.hid (fun u hu => box2_at ((hu.block _ (lt_of_block hka)).trans hka))
        obtain ⟨q0, q1⟩ := box2_at hka
        clear hbl h0 h1 hil hp hk hka hba
        go_upto_region 4 with fail
        clear x0 x1
        by_cases hk6 : 60 < k
        · have g1 : decide ((k : Int) > 60) = true := decide_eq_true (by omega)
          have g2 : decide (60 < k) = true := decide_eq_true hk6
          have g3 : decide ((60 : Int) < (k : Int)) = true := decide_eq_true (by omega)
          go_wp2_with fail
          all_goals (go_ret; exact ⟨⟨_, rfl⟩, HB5.out⟩)
        · have g1 : decide ((k : Int) > 60) = false := decide_eq_false (by omega)
          have g2 : decide (60 < k) = false := decide_eq_false hk6
          have g3 : decide ((60 : Int) < (k : Int)) = false := decide_eq_false (by omega)
          go_wp2_with fail
          go_loopw [25] (fun iv wi => ∃ j : Nat, j ≤ k ∧ iv = .int .i64 (j : Int) ∧ Hid (Below w.heap.size w wi)) (fun iv _ => k - (intOf iv).toNat)
          case atStart => exact ⟨0, Nat.zero_le _, rfl, HB5⟩
          case round =>
            obtain ⟨j, hj, rfl, HBI⟩ := hrel
            by_cases hjl : j < k
            · have e7 : decide ((j : Int) < (k : Int)) = true := decide_eq_true (by omega)
              have e8 : decide (j < k) = true := decide_eq_true hjl
              have j0 : (0 : Int) ≤ (j : Int) := by omega
              have j1 : (j : Int) < (k : Int) := by omega
              have hjn : j < ns.length := by rw [HK.out]; exact hjl
              obtain ⟨bx, ox, e3, hbx, hcx⟩ := HXV.out j hjn
              subst e3
              have z0 := (HBI.out.cell (p := ⟨bx, ox + j, none⟩) hbx).trans hcx
              generalize Mt.str ns[j] = T at *
              clear hbx hcx hjn
              by_cases h5 : 5000 < T.size
              · have g4 : decide ((T.size : Int) > 5000) = true := decide_eq_true (by omega)
                have g5 : decide (5000 < T.size) = true := decide_eq_true h5
                have g6 : decide ((5000 : Int) < (T.size : Int)) = true := decide_eq_true (by omega)
                go_wp2_with fail
                all_goals (go_ret; exact ⟨⟨_, rfl⟩, HBI.out⟩)
              · have g4 : decide ((T.size : Int) > 5000) = false := decide_eq_false (by omega)
                have g5 : decide (5000 < T.size) = false := decide_eq_false h5
                have g6 : decide ((5000 : Int) < (T.size : Int)) = false := decide_eq_false (by omega)
                go_wp2_with fail
                go_roundw
                case rel => exact ⟨j + 1, by omega, by go_num, HBI⟩
                case measure => simp [intOf]; omega
            · obtain rfl : j = k := by omega
              have e7 : decide ((j : Int) < (j : Int)) = false := decide_eq_false (by omega)
              have e8 : decide (j < j) = false := decide_eq_false (by omega)
              go_wp2_with fail
              go_roundw
              case rel => exact ⟨i + 1, by omega, by go_num, HBI⟩
              case measure => simp [intOf]; omega
      · obtain rfl : i = n := by omega
        have e1 : decide ((i : Int) < (i : Int)) = false := decide_eq_false (by omega)
        have e2 : decide (i < i) = false := decide_eq_false (by omega)
        go_wp2_with fail
        all_goals (go_ret; exact ⟨⟨_, rfl⟩, HB.out⟩)
end Go.Proofs.YtngdbhncafnliaaGreat
