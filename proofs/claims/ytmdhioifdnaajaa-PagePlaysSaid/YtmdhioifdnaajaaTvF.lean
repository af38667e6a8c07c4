/-
  What tlv.layLast, fill and Put come to.
-/
import Derived.Test.YtmdhioifdnaajaaTvM
set_option linter.unusedVariables false
set_option linter.unusedSimpArgs false
namespace Go.Proofs.Ytmdhioifdnaajaa
open Go.RowKit

/-- The bytes of a row, with some laid ahead of a place. -/
def Mt.lay (R s : List UInt8) (L : Nat) : List UInt8 := R.take (L - s.length) ++ s ++ R.drop L
theorem Mt.lay_length (R s : List UInt8) (L : Nat) (h1 : L ≤ R.length) (h2 : s.length ≤ L) : (Mt.lay R s L).length = R.length := by simp [Mt.lay]; omega

set_option maxRecDepth 100000 in
theorem layLast_any {w : World} {g : Nat} {R : List UInt8} (hg : w.heap[g]? = some (.cells (Mt.cs R).toArray 5 (0, 0))) (L : Nat) (s : List UInt8) (hL : L ≤ R.length) (hs : s.length ≤ L) (hR : R.length ≤ 1000000000) :
    Calls Try.prog 33 #[.slice (some ⟨g, 0, none⟩) L R.length, .string (Mt.str s)] w fun e w' => e = .returned (.slice (some ⟨g, 0, none⟩) (L - s.length) R.length) ∧ w'.heap[g]? = some (.cells (Mt.cs (Mt.lay R s L)).toArray 5 (0, 0)) ∧ OnlyS [g] w w' := by
  obtain ⟨A, hA⟩ : ∃ A, L - s.length = A := ⟨_, rfl⟩
  have hss : (Mt.str s).size = s.length := Mt.str_size s
  have hsub : (L : Int) - (s.length : Int) = (A : Int) := by omega
  have hsz : (Mt.cs R).toArray.size = R.length := by rw [List.size_toArray, Mt.cs_length]
  have hlay : Mt.lay R s L = R.take A ++ s ++ R.drop (A + s.length) := by unfold Mt.lay; rw [hA]; congr 2; omega
  have hA1 : (A : Int) ≤ L := by omega
  have hA2 : (A : Int) ≤ R.length := by omega
  have hA3 : (L : Int) ≤ R.length := by omega
  rw [hlay, hA]
  by_cases hcap : R.length = A
  · have hsn : s = [] := List.eq_nil_of_length_eq_zero (by omega)
    have hdl : L - A = 0 := by omega
    subst hsn
    have hrun := fun wx => run_copy_str (P := Try.prog) w 67 9 wx 5 g 0 0 (R.length - A) 0 (Mt.str []) (Mt.cs R).toArray 5 Try.underlying67 Try.szU8 hg (by simp [Mt.str_size]) (by omega)
    have hro : (((Mt.cs R).toArray.toList.take 0 ++ Mt.cs ((Mt.str []).data.toList.take 0) ++ (Mt.cs R).toArray.toList.drop (0 + 0)).toArray) = (Mt.cs R).toArray := by simp [Mt.cs]
    rw [hro] at hrun
    have hrow : (w.setRow g (Mt.cs R).toArray).heap[g]? = some (.cells (Mt.cs R).toArray 5 (0, 0)) := setRow_heap _ _ _ _ 5 (0, 0) hg
    have HROW := Lib.hid hrow
    have hres : R.take A ++ [] ++ R.drop (A + ([] : List UInt8).length) = R := by simp
    rw [hres]
    have hcap2 : (R.length = A) = True := by simp [hcap]
    clear hlay hro hrow hres hg hs hA
    go_enter Try.func33, Try.ntmps33
    go_wp2_with (refine wpList_copy_run _ rfl _ _ 67 9 rfl _ _ rfl rfl hrun ?_)
    go_ret
    exact ⟨by first | rfl | (simp; omega), HROW.out, (OnlyS.refl _ _).setRow (by simp) _⟩
  · have hcap2 : (R.length = A) = False := by simp [hcap]
    have hdl : L - A = s.length := by omega
    have hrun := fun wx => run_copy_str (P := Try.prog) w 67 9 wx 5 g A (L - A) (R.length - A) s.length (Mt.str s) (Mt.cs R).toArray 5 Try.underlying67 Try.szU8 hg (by rw [hss, hdl]; exact Nat.min_self _) (by rw [hsz]; omega)
    have hro : (((Mt.cs R).toArray.toList.take A ++ Mt.cs ((Mt.str s).data.toList.take s.length) ++ (Mt.cs R).toArray.toList.drop (A + s.length)).toArray) = (Mt.cs (R.take A ++ s ++ R.drop (A + s.length))).toArray := by
      rw [Mt.str_data, List.take_length]
      simp [Mt.cs, List.map_take, List.map_drop]
    rw [hro] at hrun
    have hrow : (w.setRow g (Mt.cs (R.take A ++ s ++ R.drop (A + s.length))).toArray).heap[g]? = some (.cells (Mt.cs (R.take A ++ s ++ R.drop (A + s.length))).toArray 5 (0, 0)) := setRow_heap _ _ _ _ 5 (0, 0) hg
    have HROW := Lib.hid hrow
    clear hlay hro hrow hg hs hA hdl
    generalize R.take A ++ s ++ R.drop (A + s.length) = RR at *
    go_enter Try.func33, Try.ntmps33
    go_wp2_with (refine wpList_copy_run _ rfl _ _ 67 9 rfl _ _ rfl rfl hrun ?_)
    go_ret
    exact ⟨by first | rfl | (simp; omega), HROW.out, (OnlyS.refl _ _).setRow (by simp) _⟩

theorem Mt.lay_lay (R T s : List UInt8) (L : Nat) (hL : L ≤ R.length) (h : s.length + T.length ≤ L) : Mt.lay (Mt.lay R T L) s (L - T.length) = Mt.lay R (s ++ T) L := by
  unfold Mt.lay
  have e1 : L - T.length - s.length = L - (s ++ T).length := by simp; omega
  have hlt : (R.take (L - T.length)).length = L - T.length := by rw [List.length_take]; omega
  have e2 : (R.take (L - T.length) ++ T ++ R.drop L).take (L - T.length - s.length) = R.take (L - T.length - s.length) := by
    rw [List.append_assoc, List.take_append_of_le_length (by rw [hlt]; omega), List.take_take]
    congr 1; omega
  have e3 : (R.take (L - T.length) ++ T ++ R.drop L).drop (L - T.length) = T ++ R.drop L := by
    rw [List.append_assoc, List.drop_append_of_le_length (by rw [hlt]; exact Nat.le_refl _), List.drop_of_length_le (by rw [hlt]; exact Nat.le_refl _), List.nil_append]
  rw [e2, e3, e1]
  simp
theorem Mt.putAll_last {f : Mt.Nd → Except Nat (List UInt8)} {ks : List Mt.Nd} {m : Nat} {bs : List UInt8} (hm : m < ks.length) (h : Mt.putAll f ks = .ok bs) :
    ∃ s T, f ks[m] = .ok s ∧ Mt.putAll f (ks.drop (m + 1)) = .ok T ∧ Mt.putAll f (ks.drop m) = .ok (s ++ T) ∧ s.length + T.length ≤ bs.length := by
  have h1 := Mt.putAll_append f (ks.take m) (ks.drop m)
  rw [List.take_append_drop, h] at h1
  cases h2 : Mt.putAll f (ks.take m) with
  | error e => rw [h2] at h1; cases h1
  | ok a =>
    rw [h2] at h1
    simp only at h1
    cases h3 : Mt.putAll f (ks.drop m) with
    | error e => rw [h3] at h1; cases h1
    | ok b =>
      rw [h3] at h1
      simp only [Except.ok.injEq] at h1
      rw [List.drop_eq_getElem_cons hm] at h3
      simp only [Mt.putAll] at h3
      cases h4 : f ks[m] with
      | error e => rw [h4] at h3; cases h3
      | ok s =>
        rw [h4] at h3
        simp only at h3
        cases h5 : Mt.putAll f (ks.drop (m + 1)) with
        | error e => rw [h5] at h3; cases h3
        | ok T =>
          rw [h5] at h3
          simp only [Except.ok.injEq] at h3
          subst h3
          refine ⟨s, T, rfl, rfl, rfl, ?_⟩
          rw [h1]; simp

/-- What fill answers, and leaves. -/
def FillP (w : World) (g : Nat) (R s : List UInt8) (L : Nat) (e : Ending) (w' : World) : Prop :=
  e = .returned (.slice (some ⟨g, 0, none⟩) (L - s.length) R.length) ∧ w'.heap[g]? = some (.cells (Mt.cs (Mt.lay R s L)).toArray 5 (0, 0)) ∧ OnlyS [g] w w'

set_option maxRecDepth 100000 in
set_option maxHeartbeats 600000 in
theorem fill_any : ∀ (d : Nat) (n : Mt.Nd) (s : List UInt8), Mt.putL d n = .ok s → ∀ (v : Value) (w : World) (ok : Nat → Prop) (h g : Nat) (R : List UInt8) (L : Nat), IsNd w ok h v n → (∀ b, ok b → b < w.heap.size → b ≠ g) →
    w.heap[g]? = some (.cells (Mt.cs R).toArray 5 (0, 0)) → L ≤ R.length → s.length ≤ L → R.length ≤ 1000000000 →
    Calls Try.prog 27 #[.slice (some ⟨g, 0, none⟩) L R.length, v] w (FillP w g R s L) := by
  intro d
  induction d with
  | zero => intro n s hs; simp [Mt.putL] at hs
  | succ d ih =>
    intro n s hs v w ok h g R L hn hok hg hL hsL hR
    obtain ⟨a, c, rfl⟩ := hn.form
    obtain ⟨h', hh, hD, hk, hkids⟩ : ∃ h', h = h' + 1 ∧ n.data.length ≤ 140737488351232 ∧ n.kids.length ≤ 2932031007402 ∧ IsKids (IsNd w ok h') w ok a n.kids := by
      cases h with
      | zero => exact hn.elim
      | succ h' =>
        obtain ⟨a2, c2, e, h1, h2, h3⟩ := hn
        simp only [Value.agg.injEq] at e
        have e' := congrArg Array.toList e
        simp at e'
        obtain ⟨rfl, rfl⟩ := e'
        exact ⟨h', rfl, h1, h2, h3⟩
    obtain ⟨ti, D, ks⟩ := n
    simp only [Mt.Nd.tag, Mt.Nd.data, Mt.Nd.kids] at hD hk hkids ⊢
    obtain ⟨bs, hbs, ht0, ht255, _, _, _, hlen, hse⟩ := Mt.putL_parts hs
    obtain ⟨t, rfl⟩ := Int.eq_ofNat_of_zero_le ht0
    rw [Int.toNat_natCast] at hse
    have ht256 : t < 256 := by omega
    have hsl : s.length = (Mt.frontL t (D ++ bs).length).length + (D ++ bs).length := by rw [hse]; simp
    have hDb : (D ++ bs).length = D.length + bs.length := by simp
    have hglt := lt_of_block hg
    have hb := (Below.refl w.heap.size w).alloc (Nat.le_refl _) (.cells #[.int .i64 t, .string (Mt.str D), .slice a ks.length c] 62)
    have HB := Lib.hid hb
    have HROW := Lib.hid (heap_alloc_new w (.cells #[.int .i64 t, .string (Mt.str D), .slice a ks.length c] 62))
    have HG := Lib.hid ((hb.block g hglt).trans hg)
    have HK := Lib.hid hkids
    have HBS := Lib.hid hbs
    have HSE := Lib.hid hse
    have HOK := Lib.hid hok
    have HIH := Lib.hid ih
    have HDB : Hid ((D ++ bs).length = D.length + bs.length ∧ s.length = (Mt.frontL t (D ++ bs).length).length + (D ++ bs).length) := ⟨hDb, hsl⟩
    clear hsl
    have hk2 : (ks.length : Int) ≤ 9223372036854775807 := by omega
    clear hn hb hkids hbs hse hok ih hs hDb hg hh
    unfold FillP
    go_enter Try.func27, Try.ntmps27
    go_wp2_with fail
    go_loopw [5, 6] (fun lv iv wr => ∃ (j M : Nat) (z : Int), z = (j : Int) - 1 ∧ j ≤ ks.length ∧ iv = .int .i64 z ∧ lv = .slice (some ⟨g, 0, none⟩) M R.length ∧ Hid (∃ T, Mt.putAll (Mt.putL d) (ks.drop j) = .ok T ∧ T.length ≤ bs.length ∧ M = L - T.length ∧
        wr.heap[g]? = some (.cells (Mt.cs (Mt.lay R T L)).toArray 5 (0, 0)) ∧ OnlyS [g] w wr ∧ wr.heap[w.heap.size]? = some (.cells #[.int .i64 t, .string (Mt.str D), .slice a ks.length c] 62 (0, 0)))) (fun _ iv _ => (intOf iv + 1).toNat)
    case atStart =>
      refine ⟨ks.length, L, (ks.length : Int) - 1, rfl, Nat.le_refl _, rfl, rfl, [], by simp [Mt.putAll], by simp, by simp, ?_, (OnlyS.refl _ _).alloc _, HROW.out⟩
      have : Mt.lay R [] L = R := by simp [Mt.lay]
      rw [this]; exact HG.out
    case round =>
      obtain ⟨j, M, z, hz, hj, rfl, rfl, HR⟩ := hrel
      cases j with
      | zero =>
        obtain rfl : z = -1 := by omega
        clear hz
        obtain ⟨T, hT, hTl, hM, hrow, ho, hbox⟩ := HR.out
        have hTb : T = bs := by
          have := HBS.out
          rw [List.drop_zero, this] at hT
          cases hT; rfl
        subst hTb
        have hll : (Mt.lay R T L).length = R.length := Mt.lay_length R T L hL (by have hdb := HDB.out; omega)
        have HL1 := layLast_any hrow M D (by rw [hll]; omega) (by have hdb := HDB.out; omega) (by rw [hll]; exact hR)
        rw [hll] at HL1
        have HLL : Hid (Calls Try.prog 33 #[.slice (some ⟨g, 0, none⟩) M R.length, .string (Mt.str D)] wr fun e w' => e = .returned (.slice (some ⟨g, 0, none⟩) (L - (D ++ T).length) R.length) ∧ w'.heap[g]? = some (.cells (Mt.cs (Mt.lay R (D ++ T) L)).toArray 5 (0, 0)) ∧ OnlyS [g] wr w') := by
          have e1 : M - D.length = L - (D ++ T).length := by have hdb := HDB.out; omega
          have e2 : Mt.lay (Mt.lay R T L) D M = Mt.lay R (D ++ T) L := by rw [hM]; exact Mt.lay_lay R T D L hL (by have hdb := HDB.out; omega)
          rw [e1, e2] at HL1
          exact HL1
        have b1 := cell_of_row wr w.heap.size 1 _ _ _ hbox
        have HO := Lib.hid ho
        have HBOX := Lib.hid hbox
        have hwg : w.heap.size ≠ g := by omega
        have hMi : (M : Int) ≤ R.length := by omega
        clear HL1 hT hTl hrow ho hbox HR hM
        go_wp2_with fail
        with_reducible refine (HLL.out).mono ?_
        rintro e w2 ⟨rfl, hrow2, ho2⟩
        have hbox2 := (ho2.block w.heap.size (lt_of_block HBOX.out) (by simpa using hwg)).trans HBOX.out
        have b0 := cell_of_row w2 w.heap.size 0 _ _ _ hbox2
        have HO2 := Lib.hid (HO.out.trans ho2)
        have HROW2 := Lib.hid hrow2
        obtain ⟨m2, hm2⟩ : ∃ m2, L - (D ++ T).length = m2 := ⟨_, rfl⟩
        have hsub : (L : Int) - (m2 : Int) = ((D ++ T).length : Int) := by have hdb := HDB.out; omega
        have hm2i : (m2 : Int) ≤ L := by omega
        have HF := Lib.hid (front_any t (D ++ T).length ht256 hlen w2)
        rw [hm2]
        have HM2 := Lib.hid hm2
        clear hrow2 ho2 hbox2 hm2
        have hlenI : ((D ++ T).length : Int) ≤ 1048576 := by omega
        generalize hq : (D ++ T).length = q at *
        have HQ := Lib.hid hq
        clear hq
        go_wp2_with fail
        refine (HF.out).mono ?_
        rintro e w3 ⟨rfl, hb3⟩
        have hrow3 := (hb3.block g (lt_of_block HROW2.out)).trans HROW2.out
        have hll2 : (Mt.lay R (D ++ T) L).length = R.length := Mt.lay_length R (D ++ T) L hL (by have e0 := HQ.out; have hdb := HDB.out; omega)
        have HL2 := layLast_any hrow3 m2 (Mt.frontL t q) (by rw [hll2]; omega) (by have e0 := HQ.out; have := HM2.out; have hdb := HDB.out; omega) (by rw [hll2]; exact hR)
        rw [hll2] at HL2
        have HLF : Hid (Calls Try.prog 33 #[.slice (some ⟨g, 0, none⟩) m2 R.length, .string (Mt.str (Mt.frontL t q))] w3 fun e w' => e = .returned (.slice (some ⟨g, 0, none⟩) (L - s.length) R.length) ∧ w'.heap[g]? = some (.cells (Mt.cs (Mt.lay R s L)).toArray 5 (0, 0)) ∧ OnlyS [g] w3 w') := by
          have e0 := HQ.out
          have e1 : m2 - (Mt.frontL t q).length = L - s.length := by have := HM2.out; have hdb := HDB.out; omega
          have e2 : Mt.lay (Mt.lay R (D ++ T) L) (Mt.frontL t q) m2 = Mt.lay R s L := by
            have h := Mt.lay_lay R (D ++ T) (Mt.frontL t q) L hL (by have hdb := HDB.out; omega)
            rw [e0, HM2.out] at h
            rw [h, HSE.out]
          rw [e1, e2] at HL2
          exact HL2
        have HO3 := Lib.hid (HO2.out.then hb3)
        clear HL2 hrow3 hb3
        go_wp2_with fail
        refine (HLF.out).mono ?_
        rintro e w4 ⟨rfl, hrow4, ho4⟩
        have HR4 := Lib.hid hrow4
        have HO4 := Lib.hid (HO3.out.trans ho4)
        clear hrow4 ho4
        go_wp2_with fail
        go_ret
        exact ⟨rfl, HR4.out, HO4.out⟩
      | succ m =>
        obtain rfl : z = (m : Int) := by omega
        clear hz
        have hmlt : m < ks.length := by omega
        obtain ⟨s1, T1, hs1, hT1, hsT, hle⟩ := Mt.putAll_last hmlt HBS.out
        obtain ⟨T, hT, hTl, hM, hrow, ho, hbox⟩ := HR.out
        have hTT : T = T1 := by rw [hT] at hT1; cases hT1; rfl
        subst hTT
        obtain hnil | ⟨ba, oa, rfl, hokb, hca⟩ := HK.out
        · rw [hnil] at hmlt; simp at hmlt
        obtain ⟨x0, x1, x2, p0, p1, p2, hx⟩ := hca m hmlt
        have hla := World.block_lt_of_cell? w _ p0
        have hbg := HOK.out ba hokb hla
        have ea : ∀ o, wr.cell? ⟨ba, o, none⟩ = w.cell? ⟨ba, o, none⟩ := fun o => ho.cell (p := ⟨ba, o, none⟩) hla (by simpa using hbg)
        rw [← ea, Nat.mul_comm 3 m] at p0 p1 p2
        have hx' : IsNd wr (fun b => ok b ∧ b < w.heap.size) h' (.agg #[x0, x1, x2]) ks[m] := hx.keep (fun b hb hlt => ⟨hb, hlt⟩) (fun b hb hlt => ho.block b hlt (by simpa using HOK.out b hb hlt)) (Nat.le_refl _)
        have hll : (Mt.lay R T L).length = R.length := Mt.lay_length R T L hL (by have hdb := HDB.out; omega)
        have HC1 := HIH.out ks[m] s1 hs1 _ wr _ h' g (Mt.lay R T L) M hx' (fun b hb _ => HOK.out b hb.1 hb.2) hrow (by rw [hll]; omega) (by have hdb := HDB.out; omega) (by rw [hll]; exact hR)
        rw [hll] at HC1
        have HC : Hid (Calls Try.prog 27 #[.slice (some ⟨g, 0, none⟩) M R.length, .agg #[x0, x1, x2]] wr fun e w' => e = .returned (.slice (some ⟨g, 0, none⟩) (M - s1.length) R.length) ∧ w'.heap[g]? = some (.cells (Mt.cs (Mt.lay R (s1 ++ T) L)).toArray 5 (0, 0)) ∧ OnlyS [g] wr w') := by
          have e2 : Mt.lay (Mt.lay R T L) s1 M = Mt.lay R (s1 ++ T) L := by rw [hM]; exact Mt.lay_lay R T s1 L hL (by have hdb := HDB.out; omega)
          unfold FillP at HC1
          rw [e2, hll] at HC1
          exact HC1
        have b2 := cell_of_row wr w.heap.size 2 _ _ _ hbox
        have HO := Lib.hid ho
        have HBOX := Lib.hid hbox
        have hwg : w.heap.size ≠ g := by omega
        have HST := Lib.hid hsT
        have hm2 : (m : Int) < ks.length := by omega
        have HMM := Lib.hid hM
        clear hM HC1 hT hT1 hsT hrow ho hbox HR ea hx hx' hca
        go_wp2_with fail
        refine (HC.out).mono ?_
        rintro e w2 ⟨rfl, hrow2, ho2⟩
        have HX : Hid (∃ T', Mt.putAll (Mt.putL d) (ks.drop m) = .ok T' ∧ T'.length ≤ bs.length ∧ M - s1.length = L - T'.length ∧ w2.heap[g]? = some (.cells (Mt.cs (Mt.lay R T' L)).toArray 5 (0, 0)) ∧ OnlyS [g] w w2 ∧ w2.heap[w.heap.size]? = some (.cells #[.int .i64 t, .string (Mt.str D), .slice (some ⟨ba, oa, none⟩) ks.length c] 62 (0, 0))) :=
          ⟨s1 ++ T, HST.out, by rw [List.length_append]; omega, by have := HMM.out; rw [List.length_append]; omega, hrow2, HO.out.trans ho2, (ho2.block w.heap.size (lt_of_block HBOX.out) (by simpa using hwg)).trans HBOX.out⟩
        clear hrow2 ho2
        go_wp2_with fail
        go_roundw
        case rel => exact ⟨m, _, (m : Int) - 1, rfl, by omega, by go_num, rfl, HX⟩
        case measure => simp [intOf]

/-- What Put answers. -/
def putV : Except Nat (List UInt8) → Value
  | .error e => .tuple #[.string ByteArray.empty, .int .i64 e]
  | .ok s => .tuple #[.string (Mt.str s), .int .i64 0]
theorem make_bytes (n : Nat) (hn : n ≤ 1000000000) (W : World) : (Instr.makeSlice 67 (.int .i64 (n : Int)) (.int .i64 (n : Int))).run Try.prog W = .ok (.slice (some ⟨W.heap.size, 0, none⟩) n n) (W.alloc (.cells (Mt.cs (List.replicate n 0)).toArray 5)) := by
  obtain ⟨i0, hi, hz0, hz1, hz2⟩ := info_parts Try.infoU8
  have h := run_make (P := Try.prog) W 67 5 i0 (.int .u8 0) Try.underlying67 hi hz0 .i64 .i64 (n : Int) (n : Int) (by omega) (by omega) (by rw [hz2]; omega) (by omega)
  have e : madeCells (Value.int .u8 0).cells (((n : Nat) : Int).toNat * i0.size) = (Mt.cs (List.replicate n 0)).toArray := by
    apply Array.ext'
    rw [hz1, Nat.mul_one, Int.toNat_natCast]
    have := toList_madeCells_one (.int .u8 0) n
    simpa [Mt.cs, Value.cells] using this
  rw [e] at h
  simpa using h

set_option maxRecDepth 100000 in
theorem Put_any (n : Mt.Nd) (v : Value) (w : World) (ok : Nat → Prop) (h : Nat) (hn : IsNd w ok h v n) :
    Calls Try.prog 21 #[v] w fun e w' => e = .returned (putV (Mt.putL 64 n)) ∧ Below w.heap.size w w' := by
  obtain ⟨a, c, rfl⟩ := hn.form
  have hb := (Below.refl w.heap.size w).alloc (Nat.le_refl _) (.cells #[.int .i64 n.tag, .string (Mt.str n.data), .slice a n.kids.length c] 62)
  have HB := Lib.hid hb
  have HROW := Lib.hid (heap_alloc_new w (.cells #[.int .i64 n.tag, .string (Mt.str n.data), .slice a n.kids.length c] 62))
  have HSZ : Hid ((w.alloc (.cells #[.int .i64 n.tag, .string (Mt.str n.data), .slice a n.kids.length c] 62)).heap.size = w.heap.size + 1) := by show _ = _; simp
  have HM : Hid (Calls Try.prog 26 #[.agg #[.int .i64 n.tag, .string (Mt.str n.data), .slice a n.kids.length c], .int .i64 1] (w.alloc (.cells #[.int .i64 n.tag, .string (Mt.str n.data), .slice a n.kids.length c] 62)) fun e w' => e = .returned (measV (Mt.putL 64 n)) ∧ Below (w.alloc (.cells #[.int .i64 n.tag, .string (Mt.str n.data), .slice a n.kids.length c] 62)).heap.size (w.alloc (.cells #[.int .i64 n.tag, .string (Mt.str n.data), .slice a n.kids.length c] 62)) w') :=
    measure_any 64 1 rfl n _ _ ok h (hn.below hb)
  have HN := Lib.hid (hn.below hb)
  clear hb hn
  cases hp : Mt.putL 64 n with
  | error e =>
    have hene := Mt.putL_err _ _ _ hp
    have he1 : ((e : Int) != 0) = true := by simp; omega
    have he2 : ((e : Int) == 0) = false := by simp; omega
    rw [hp] at HM
    simp only [measV] at HM
    clear hp hene HN
    generalize n.tag = t at *
    generalize n.data = D at *
    generalize n.kids.length = m at *
    go_enter Try.func21, Try.ntmps21
    go_wp2_with fail
    refine (HM.out).mono ?_
    rintro x w1 ⟨rfl, hb⟩
    have HB1 := Lib.hid (HB.out.trans (hb.mono HB.out.size))
    clear hb
    go_wp2_with fail
    refine bodyPost_ret (v := putV (.error e)) (by simp [results, Try.results21, go_sem, putV]; rfl) rfl ⟨rfl, HB1.out⟩
  | ok s =>
    have hsl := Mt.putL_length hp
    rw [hp] at HM
    simp only [measV] at HM
    have HP := Lib.hid hp
    have hmk := fun W => make_bytes s.length (by omega) W
    obtain ⟨M, hM⟩ : ∃ M, List.replicate s.length (0 : UInt8) = M := ⟨_, rfl⟩
    rw [hM] at hmk
    have HMM := Lib.hid hM
    clear hp hM
    go_enter Try.func21, Try.ntmps21
    go_wp2_with fail
    refine (HM.out).mono ?_
    rintro x w1 ⟨rfl, hb⟩
    have HB1 := Lib.hid (HB.out.trans (hb.mono HB.out.size))
    have hrow1 := (hb.block w.heap.size (by rw [HSZ.out]; omega)).trans HROW.out
    have hbx := (Below.refl w1.heap.size w1).alloc (Nat.le_refl _) (.cells (Mt.cs M).toArray 5)
    have hrow2 := (hbx.block _ (lt_of_block hrow1)).trans hrow1
    have hlt := lt_of_block hrow1
    have hn2 := ((HN.out.below hb).below hbx).mono (ok' := fun b => ok b) (Nat.le_refl _) (fun b hb _ => hb)
    have hMl : M.length = s.length := by rw [← HMM.out]; simp
    have HF1 := fill_any 64 n s HP.out _ (w1.alloc (.cells (Mt.cs M).toArray 5)) (fun b => ok b ∧ b < w1.heap.size) h w1.heap.size M s.length ((HN.out.below hb).keep (fun b hb hlt => ⟨hb, hlt⟩) (fun b _ hlt => hbx.block b hlt) (Nat.le_refl _)) (fun b hb _ => by omega) (heap_alloc_new w1 _) (by rw [hMl]; exact Nat.le_refl _) (Nat.le_refl _) (by rw [hMl]; omega)
    have hlay : Mt.lay M s s.length = s := by unfold Mt.lay; simp; omega
    unfold FillP at HF1
    rw [hlay, hMl] at HF1
    have HF := Lib.hid HF1
    have b0 := fun (x : Obj) => cell_of_row (w1.alloc (.cells (Mt.cs M).toArray 5)) w.heap.size 0 _ _ _ hrow2
    have HBX := Lib.hid (HB1.out.trans (hbx.mono HB1.out.size))
    have c0 := cell_of_row w1 w.heap.size 0 _ _ _ hrow1
    have c1 := cell_of_row w1 w.heap.size 1 _ _ _ hrow1
    have c2 := cell_of_row w1 w.heap.size 2 _ _ _ hrow1
    clear hb hrow1 hbx hrow2 hn2 HF1 hlay b0
    go_wp2_with fail
    refine (HF.out).mono ?_
    rintro x w2 ⟨rfl, hrow, ho⟩
    have hcv := byt_text (w := w2) (cap := s.length) (n := s.length) (off := 0) (l := s) hrow (fun j hj => by rw [Nat.zero_add, List.getElem?_toArray]; exact Mt.cs_get s j hj) (Nat.le_refl _)
    rw [List.take_length] at hcv
    have HB2 : Hid (Below w.heap.size w w2) := HBX.out.trans (ho.toBelow (by simp; omega) (by have := HBX.out.size; omega))
    clear hrow ho hmk
    go_wp2_with fail
    refine bodyPost_ret (v := putV (.ok s)) (by simp [results, Try.results21, go_sem, putV]) rfl ⟨rfl, HB2.out⟩
end Go.Proofs.Ytmdhioifdnaajaa
