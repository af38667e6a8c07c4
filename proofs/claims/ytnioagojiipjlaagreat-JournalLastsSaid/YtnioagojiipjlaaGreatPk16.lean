/-
  Some texts of one proof, one behind the other.
-/
import Derived.Test.YtnioagojiipjlaaGreatPk15
set_option linter.unusedVariables false
set_option linter.unusedSimpArgs false

/-
  What the document's disk loses: 'lose'.
-/
namespace Go.Proofs.YtnioagojiipjlaaGreat
open Go.RowKit Go.Maps

/-- The sectors that wait, among the first ones. -/
def Mt.wk (W : List (Option (List UInt8))) (k : Nat) : List Nat := (List.range k).filter fun i => (W.getD i none).isSome
theorem Mt.wk_all (W : List (Option (List UInt8))) : Mt.wk W W.length = Mt.wkeys W := rfl
theorem Mt.wk_none {W : List (Option (List UInt8))} {k : Nat} (h : W.getD k none = none) : Mt.wk W (k + 1) = Mt.wk W k := by
  unfold Mt.wk
  rw [List.range_succ, List.filter_append, List.filter_cons, h]
  simp
theorem Mt.wk_some {W : List (Option (List UInt8))} {k : Nat} {b : List UInt8} (h : W.getD k none = some b) : Mt.wk W (k + 1) = Mt.wk W k ++ [k] := by
  unfold Mt.wk
  rw [List.range_succ, List.filter_append, List.filter_cons, h]
  simp
theorem Mt.wk_len (W : List (Option (List UInt8))) (k : Nat) : (Mt.wk W k).length ≤ k := by
  have h := List.length_filter_le (fun i => (W.getD i none).isSome) (List.range k)
  rw [List.length_range] at h
  exact h
/-- What waits, behind the first ones. -/
def Mt.wr (W : List (Option (List UInt8))) (k : Nat) : List (Option (List UInt8)) := List.replicate k none ++ W.drop k
theorem Mt.wr_length {W : List (Option (List UInt8))} {k : Nat} (h : k ≤ W.length) : (Mt.wr W k).length = W.length := by
  unfold Mt.wr
  rw [List.length_append, List.length_replicate, List.length_drop]; omega
theorem Mt.wr_get {W : List (Option (List UInt8))} {k : Nat} : (Mt.wr W k).getD k none = W.getD k none := by
  unfold Mt.wr
  simp [List.getD, List.getElem?_append]
theorem Mt.wr_set {W : List (Option (List UInt8))} {k : Nat} (h : k < W.length) : (Mt.wr W k).set k none = Mt.wr W (k + 1) := by
  unfold Mt.wr
  have hc : W.drop k = W[k] :: W.drop (k + 1) := List.drop_eq_getElem_cons h
  rw [hc, List.set_append_right _ _ (by simp), List.length_replicate, Nat.sub_self, List.set_cons_zero, List.replicate_succ', List.append_assoc]
  rfl
theorem Mt.wr_none {W : List (Option (List UInt8))} {k : Nat} (h : k < W.length) (hn : W.getD k none = none) : Mt.wr W k = Mt.wr W (k + 1) := by
  unfold Mt.wr
  have hc : W.drop k = W[k] :: W.drop (k + 1) := List.drop_eq_getElem_cons h
  have e : W[k] = none := by simpa [List.getD, List.getElem?_eq_getElem h] using hn
  rw [hc, e, List.replicate_succ', List.append_assoc]
  rfl
theorem Mt.wr_all (W : List (Option (List UInt8))) : Mt.wr W W.length = Mt.noWaits W.length := by unfold Mt.wr Mt.noWaits; simp
theorem Mt.lose_some {keep : Nat} {torn at' : Int} {W : List (Option (List UInt8))} {L : List (List UInt8)} {k : Nat} {b : List UInt8} (h : W.getD k none = some b) :
    Mt.loseK keep torn at' W 0 (Mt.wk W (k + 1)) L = (Mt.loseK keep torn at' W 0 (Mt.wk W k) L).set k (Mt.pick keep torn at' (Mt.wk W k).length ((Mt.loseK keep torn at' W 0 (Mt.wk W k) L).getD k []) b) := by
  rw [Mt.wk_some h, Mt.loseK_append, Nat.zero_add, Mt.loseK, Mt.loseK, h]
  rfl
/-- The disk in the midst of a loss. -/
def Mt.Dk.mid (d : Mt.Dk) (keep : Nat) (torn at' : Int) (k : Nat) : Mt.Dk := { d with lasts := Mt.loseK keep torn at' d.waits 0 (Mt.wk d.waits k) d.lasts, waits := Mt.wr d.waits k, tears := d.tears ++ Mt.tearK keep torn at' d.waits 0 (Mt.wk d.waits k) d.lasts }
theorem Mt.mid_zero (d : Mt.Dk) (keep : Nat) (torn at' : Int) : d.mid keep torn at' 0 = d := by
  show ({ d with tears := d.tears ++ [] } : Mt.Dk) = d
  rw [List.append_nil]
/-- What is torn of one sector. -/
def Mt.tear1 (keep : Nat) (torn at' : Int) (c : Nat) (a b : List UInt8) : List (List UInt8 × List UInt8 × List UInt8) := if (c : Int) = torn then [(a, b, Mt.pick keep torn at' c a b)] else []
theorem Mt.tear_some {keep : Nat} {torn at' : Int} {W : List (Option (List UInt8))} {L : List (List UInt8)} {k : Nat} {b : List UInt8} (h : W.getD k none = some b) :
    Mt.tearK keep torn at' W 0 (Mt.wk W (k + 1)) L = Mt.tearK keep torn at' W 0 (Mt.wk W k) L ++ Mt.tear1 keep torn at' (Mt.wk W k).length ((Mt.loseK keep torn at' W 0 (Mt.wk W k) L).getD k []) b := by
  rw [Mt.wk_some h, Mt.tearK_append, Nat.zero_add, Mt.tearK, Mt.tearK, h, List.append_nil]
  rfl
theorem Mt.mid_all (d : Mt.Dk) (h : d.Ok) (keep : Nat) (torn at' : Int) : d.mid keep torn at' d.lasts.length = d.lose keep torn at' := by
  unfold Mt.Dk.mid Mt.Dk.lose Mt.loseAll
  rw [← h.len, Mt.wk_all, Mt.wr_all]
theorem Mt.mid_none (d : Mt.Dk) (h : d.Ok) (keep : Nat) (torn at' : Int) (k : Nat) (hk : k < d.lasts.length) (hn : d.waits.getD k none = none) : d.mid keep torn at' k = d.mid keep torn at' (k + 1) := by
  unfold Mt.Dk.mid
  rw [Mt.wk_none hn, Mt.wr_none (by rw [h.len]; exact hk) hn]
theorem Mt.mid_some (d : Mt.Dk) (h : d.Ok) (keep : Nat) (torn at' : Int) (k : Nat) (hk : k < d.lasts.length) (b : List UInt8) (hn : d.waits.getD k none = some b) :
    d.mid keep torn at' (k + 1) = { d.mid keep torn at' k with lasts := (d.mid keep torn at' k).lasts.set k (Mt.pick keep torn at' (Mt.wk d.waits k).length ((d.mid keep torn at' k).lasts.getD k []) b), waits := (d.mid keep torn at' k).waits.set k none, tears := (d.mid keep torn at' k).tears ++ Mt.tear1 keep torn at' (Mt.wk d.waits k).length ((d.mid keep torn at' k).lasts.getD k []) b } := by
  unfold Mt.Dk.mid
  dsimp only
  rw [Mt.tear_some hn, Mt.lose_some hn, Mt.wr_set (by rw [h.len]; exact hk), List.append_assoc]
theorem Mt.mid_len (d : Mt.Dk) (keep : Nat) (torn at' : Int) (k : Nat) : (d.mid keep torn at' k).lasts.length = d.lasts.length := Mt.loseK_length ..

theorem Mt.tear1_yes {keep : Nat} {torn at' : Int} {c : Nat} (h : (c : Int) = torn) (a b : List UInt8) : Mt.tear1 keep torn at' c a b = [(a, b, Mt.pick keep torn at' c a b)] := if_pos h
theorem Mt.tear1_no {keep : Nat} {torn at' : Int} {c : Nat} (h : ¬ (c : Int) = torn) (a b : List UInt8) : Mt.tear1 keep torn at' c a b = [] := if_neg h
theorem RD.setTears {w : World} {g : Rg} {d : Mt.Dk} {lim : Bool} {most : Nat} {tv : Value} {tn : Nat} {tcs : List Value} (h : RD w g d lim most tv tn tcs) (T : List (List UInt8 × List UInt8 × List UInt8)) : RD w g { d with tears := T } lim most tv tn tcs :=
  ⟨h.ok.setTears T, h.row, h.lasts, h.waits, h.tears, h.ltR, h.apart, h.size, h.room, h.most, h.prot, h.ltP⟩
theorem RD.protNew {x : World} {g : Rg} {d : Mt.Dk} {lim : Bool} {most : Nat} {tv : Value} {tn : Nat} {tcs : List Value} (h : RD x g d lim most tv tn tcs) {gg n cap : Nat} (hat : tv.ownBlock = some gg ∨ gg = x.heap.size + 1) : ∀ k, (Value.slice (some ⟨gg, 0, none⟩) n cap).ownBlock = some k → ¬ g.P k := fun k e hk => by
  have e2 : gg = k := by simpa [Value.ownBlock] using e
  rcases hat with h1 | h1
  · rw [e2] at h1; exact h.prot k h1 hk
  · have := h.ltP k hk; omega
theorem RD.tear {x y : World} {g : Rg} {d : Mt.Dk} {lim : Bool} {most : Nat} {tv : Value} {tn : Nat} {tcs : List Value} (h : RD x g d lim most tv tn tcs) (hg : x.grownBy y tv.ownBlock) (v : Value) (n : Nat) (cs : List Value) (hown : y.ownsRow g.D 98 3 v n cs) (hv : ∀ k, v.ownBlock = some k → ¬ g.P k) :
    RD (y.setCell ⟨g.R, 9, none⟩ v) g d lim most v n cs ∧ Fr g x (y.setCell ⟨g.R, 9, none⟩ v) ∧ y.cell? ⟨g.R, 9, none⟩ = some tv ∧ y.frozen? ⟨g.R, 9, none⟩ = false ∧ (∀ k, k < x.heap.size → tv.ownBlock ≠ some k → k ≠ g.R → (y.setCell ⟨g.R, 9, none⟩ v).heap[k]? = x.heap[k]?) ∧ ∀ k i, k < g.D → y.cell? ⟨k, i, none⟩ = x.cell? ⟨k, i, none⟩ := by
  have hb : ∀ k, k < g.D → y.heap[k]? = x.heap[k]? := fun k hk => hg.block k (by have := h.size; omega) (fun e => by have := (h.tears.lt k e.symm).1; omega)
  have hr := hb g.R h.ltR
  rw [h.row] at hr
  have hs := heap_setCell_same y g.R 9 _ _ v hr
  refine ⟨⟨h.ok, hs, fun hn => ?_, fun hn => ?_, own_at hown fun k h1 _ => heap_setCell_other _ _ _ _ (by have := h.ltR; show k ≠ g.R; omega), h.ltR, h.apart, Nat.le_trans h.size (Nat.le_trans hg.size (setCell_size _ _ _)), h.room, h.most, hv, fun b hb => Nat.lt_of_lt_of_le (h.ltP b hb) (Nat.le_trans hg.size (setCell_size _ _ _))⟩, ?_, ?_, frozen_of_row _ _ _ _ _ hr, fun k h1 h2 h3 => ?_, fun k i hk => by unfold World.cell?; rw [hb k hk]⟩
  · obtain ⟨a1, a2, a3, a4, a5⟩ := h.apart hn
    obtain ⟨cs, h1, h2⟩ := h.lasts hn
    exact txts_other ⟨cs, by rw [hb _ a1]; exact h1, h2⟩ a4 v
  · obtain ⟨a1, a2, a3, a4, a5⟩ := h.apart hn
    obtain ⟨cs, h1, h2⟩ := h.waits hn
    exact txts_other ⟨cs, by rw [hb _ a2]; exact h1, h2⟩ a5 v
  · exact ((Fr.refl g x).grown (fun k e => (h.tears.lt k e).1) h.prot hg).setCell (.inl rfl) v
  · rw [cell_of_row _ _ _ _ _ _ hr]; rfl
  · rw [heap_setCell_other _ _ _ _ (show k ≠ g.R from h3)]
    exact hg.block k h1 (fun e => h2 e.symm)

section
variable {w : World} {g : Rg} {d : Mt.Dk} {lim : Bool} {most : Nat} {tv : Value} {tn : Nat} {tcs : List Value}

set_option maxHeartbeats 1000000 in
set_option maxRecDepth 100000 in
theorem elose_rd (h : RD w g d lim most tv tn tcs) (hts : tcs = Mt.tearC d.tears) (keep : Nat) (torn at' : Int) (htn : tn < 1000000) (hkp : keep < 18446744073709551616) (hto : -9223372036854775808 ≤ torn ∧ torn ≤ 9223372036854775807) (hat : -9223372036854775808 ≤ at' ∧ at' ≤ 9223372036854775807) :
    Calls Tryz.prog 54 #[.pointer (some ⟨g.R, 0, none⟩), .agg #[.int .u64 (keep : Int), .int .i64 torn, .int .i64 at']] w fun e w' => e = .returned (.tuple #[]) ∧ (∃ tv' tn' tcs', RD w' g (d.lose keep torn at') lim most tv' tn' tcs' ∧ tn' ≤ tn + 1 ∧ tcs' = Mt.tearC (d.lose keep torn at').tears) ∧ Fr g w w' := by
  have HTS := Lib.hid hts
  clear hts
  obtain ⟨n, hn⟩ : ∃ n, d.lasts.length = n := ⟨_, rfl⟩
  have HN := Lib.hid hn
  have hn8 : n ≤ 8192 := by rw [← hn]; exact h.ok.most
  have HD := Lib.hid h
  have c0 := h.c0
  obtain ⟨a, ha⟩ := slc_form d.lasts.length g.bl g.cl
  rw [ha, hn] at c0
  have hlt : g.R < w.heap.size := Nat.lt_of_lt_of_le h.ltR h.size
  have HDS := Lib.hid h.size
  clear hn ha h
  obtain ⟨nb, hnb⟩ : ∃ nb, w.heap.size = nb := ⟨_, rfl⟩
  have HNB := Lib.hid hnb
  have HND : Hid (g.D ≤ nb) := Lib.hid (by rw [← hnb]; exact HDS.out)
  clear hnb
  obtain ⟨i0, hi, hz0, hz1, hz2⟩ := info_parts Tryz.infoTorn
  go_enter Tryz.func54, Tryz.ntmps54
  go_wp2_with fail
  have HDA := Lib.hid (HD.out.alloc (.cells #[.int .u64 (keep : Int), .int .i64 torn, .int .i64 at'] 42))
  have HFA := Lib.hid ((Fr.refl g w).alloc HDS.out (.cells #[.int .u64 (keep : Int), .int .i64 torn, .int .i64 at'] 42))
  have HLA := Lib.hid (heap_alloc_new w (.cells #[.int .u64 (keep : Int), .int .i64 torn, .int .i64 at'] 42))
  have HTV : Hid (tv.ownBlock ≠ some w.heap.size) := Lib.hid (fun e => by have := (HD.out.tears.lt _ e).2; omega)
  generalize (w.alloc (.cells #[.int .u64 (keep : Int), .int .i64 torn, .int .i64 at'] 42)) = w1 at *
  rw [HNB.out] at HLA HTV ⊢
  go_loopw [4, 5, 6, 7, 8, 14] (fun c _ _ _ _ i wr => ∃ (k m : Nat) (tv' : Value) (tn' : Nat) (tcs' : List Value), k ≤ n ∧ i = .int .i64 k ∧ c = .int .i64 m ∧ Hid (m = (Mt.wk d.waits k).length) ∧ Hid (RD wr g (d.mid keep torn at' k) lim most tv' tn' tcs') ∧ Hid (Fr g w wr)
      ∧ Hid (wr.heap[nb]? = some (.cells #[.int .u64 (keep : Int), .int .i64 torn, .int .i64 at'] 42 (0, 0))) ∧ Hid (tv'.ownBlock ≠ some nb) ∧ Hid (tn' ≤ tn + 1 ∧ ((m : Int) ≤ torn → tn' ≤ tn) ∧ tcs' = Mt.tearC (d.mid keep torn at' k).tears))
    (fun _ _ _ _ _ i _ => n - (intOf i).toNat)
  case atStart => exact ⟨0, 0, tv, tn, tcs, by omega, rfl, rfl, Lib.hid rfl, by simpa [Mt.mid_zero] using HDA, HFA, HLA, HTV, Lib.hid ⟨by omega, fun _ => Nat.le_refl _, by rw [Mt.mid_zero]; exact HTS.out⟩⟩
  case round =>
    clear HDA HFA HLA HTV hlt c0
    obtain ⟨k, m, tv1, tn1, tcs1, hk, rfl, rfl, HM, HDK, HFK, HLK, HTK, HTN⟩ := hrel
    by_cases hkn : k < n
    · have hki : (k : Int) < (n : Int) := by omega
      have hk0 : (0 : Int) ≤ (k : Int) := by omega
      have hkl : k < (d.mid keep torn at' k).lasts.length := by rw [Mt.mid_len, HN.out]; exact hkn
      have c0 := HDK.out.c0
      have c1 := HDK.out.c1
      rw [slc_pos (by omega), Mt.mid_len, HN.out] at c0 c1
      have cw := HDK.out.cW k hkl
      have cl := HDK.out.cL k hkl
      unfold lastT at cl
      have hwk : waitT (d.mid keep torn at' k) k = wtxt (d.waits.getD k none) := by unfold waitT; exact congrArg wtxt Mt.wr_get
      rw [hwk] at cw
      clear hwk
      have p0 : wr.cell? ⟨nb, 0, none⟩ = some (.int .u64 (keep : Int)) := by rw [cell_of_row _ _ _ _ _ _ HLK.out]; rfl
      have p1 : wr.cell? ⟨nb, 1, none⟩ = some (.int .i64 torn) := by rw [cell_of_row _ _ _ _ _ _ HLK.out]; rfl
      have p2 : wr.cell? ⟨nb, 2, none⟩ = some (.int .i64 at') := by rw [cell_of_row _ _ _ _ _ _ HLK.out]; rfl
      have hmk : m ≤ k := by rw [HM.out]; exact Mt.wk_len _ _
      cases hx : d.waits.getD k none with
      | none =>
        rw [hx] at cw
        have cw' : wr.cell? ⟨g.bw, k, none⟩ = some (.string ByteArray.empty) := cw
        have HMN := Lib.hid (Mt.wk_none hx)
        have HNX := Lib.hid (Mt.mid_none d HD.out.ok keep torn at' k (by rw [HN.out]; exact hkn) hx)
        clear cw hx hkl
        go_wp2_with fail
        go_roundw
        case rel => exact ⟨k + 1, m, tv1, tn1, tcs1, by omega, by go_num, rfl, Lib.hid (by rw [HMN.out]; exact HM.out), by rw [← HNX.out]; exact HDK, HFK, HLK, HTK, Lib.hid ⟨HTN.out.1, HTN.out.2.1, by rw [← HNX.out]; exact HTN.out.2.2⟩⟩
        case measure => simp [intOf]; omega
      | some b =>
        rw [hx] at cw
        have cw' : wr.cell? ⟨g.bw, k, none⟩ = some (.string (Mt.str b)) := cw
        have HMN := Lib.hid (Mt.wk_some hx)
        have HMN2 : Hid (m + 1 = (Mt.wk d.waits (k + 1)).length) := Lib.hid (by rw [HMN.out, List.length_append, ← HM.out]; rfl)
        have HNX := Lib.hid (Mt.mid_some d HD.out.ok keep torn at' k (by rw [HN.out]; exact hkn) b hx)
        rw [← HM.out] at HNX
        have hb : b.length = 128 := HD.out.ok.waits k b (by
          have hl : k < d.waits.length := by rw [HD.out.ok.len, HN.out]; exact hkn
          rw [List.getElem?_eq_getElem hl]
          simpa [List.getD, List.getElem?_eq_getElem hl] using hx)
        have hne := str_empty hb
        have HB := Lib.hid hb
        have HKL := Lib.hid hkl
        have HLS : Hid (((d.mid keep torn at' k).lasts.getD k []).length = 128) := Lib.hid (by
          have e : (d.mid keep torn at' k).lasts.getD k [] = (d.mid keep torn at' k).lasts[k] := by rw [List.getD_eq_getElem?_getD, List.getElem?_eq_getElem hkl]; rfl
          rw [e]; exact HDK.out.ok.lasts k hkl)
        obtain ⟨old, hold⟩ : ∃ old, (d.mid keep torn at' k).lasts.getD k [] = old := ⟨_, rfl⟩
        have HOLD := Lib.hid hold
        rw [hold] at cl HLS HNX
        have fl := HDK.out.fL k (by omega)
        have fw := HDK.out.fW k (by omega)
        have HM2 := Lib.hid hmk
        clear cw hx hkl hold hb HMN
        -- behind the write of what lasts: what waits is none, one more is counted
        have HEND : Hid (∀ (u : World) (P : List UInt8) (tv2 : Value) (tn2 : Nat) (tcs2 : List Value), RD u g { d.mid keep torn at' k with lasts := (d.mid keep torn at' k).lasts.set k P } lim most tv2 tn2 tcs2 → P = Mt.pick keep torn at' m old b → RD (u.setCell ⟨g.bw, k, none⟩ (.string ByteArray.empty)) g (d.mid keep torn at' (k + 1)) lim most tv2 tn2 tcs2) := Lib.hid (by
          intro u P tv2 tn2 tcs2 hu hP
          subst hP
          have h2 := hu.setW k (by show k < ((d.mid keep torn at' k).lasts.set k _).length; rw [List.length_set]; exact HKL.out) none (fun b hb => by cases hb)
          rw [HNX.out]
          exact h2.setTears _)
        by_cases htk : (m : Int) = torn
        · have ht1 : ((m : Int) == torn) = true := by simpa using htk
          have HPK : Hid (b.take (Mt.tornN at') ++ old.drop (Mt.tornN at') = Mt.pick keep torn at' m old b) := Lib.hid (by unfold Mt.pick; rw [if_pos htk])
          have HTT : Hid (tn1 ≤ tn) := Lib.hid (HTN.out.2.1 (by omega))
          have HMT := Lib.hid htk
          have htz : Mt.tornN at' ≤ 128 := by unfold Mt.tornN; omega
          have HTZ : Hid (Mt.tornN at' = at'.toNat % 129) := Lib.hid rfl
          generalize Mt.tornN at' = tz at *
          obtain ⟨S, hS⟩ : ∃ S, Mt.str b = S := ⟨_, rfl⟩
          obtain ⟨O, hO⟩ : ∃ O, Mt.str old = O := ⟨_, rfl⟩
          have hSs : S.size = 128 := by rw [← hS, Mt.str_size]; exact HB.out
          have hOs : O.size = 128 := by rw [← hO, Mt.str_size]; exact HLS.out
          have HE : Hid ((S.extract 0 tz) ++ (O.extract tz 128) = Mt.str (b.take tz ++ old.drop tz)) := Lib.hid (by
            have hb : ∀ a b : ByteArray, a.data.toList = b.data.toList → a = b := fun a b h => by
              cases a; cases b
              simp only at h
              congr 1
              exact Array.toList_inj.1 h
            apply hb
            rw [ByteArray.data_append, Array.toList_append, ByteArray.data_extract, ByteArray.data_extract, Array.toList_extract, Array.toList_extract, List.extract_eq_take_drop, List.extract_eq_take_drop, List.drop_zero, Nat.sub_zero, Mt.str_data, ← hS, ← hO, Mt.str_data, Mt.str_data]
            congr 1
            rw [List.take_of_length_le (by rw [List.length_drop, HLS.out]; omega)])
          have hadd := fun wx => run_string_add_sum (w := wx) (P := Tryz.prog) (S.extract 0 tz) (O.extract tz 128) (by simp [ByteArray.size_extract]; omega)
          have hz128 : (tz : Int) ≤ 128 := by omega
          have htz0 : (0 : Int) ≤ (tz : Int) := by omega
          rw [hS] at cw' hne
          rw [hO] at cl
          clear htk
          by_cases ha0 : 0 < at'
          all_goals
            first
              | (have hx : 0 < at' := by exact ha0
                 go_upto_region 12 with fail
                 rw [show at' % 129 = (tz : Int) from by have := HTZ.out; omega]
                 clear hx)
              | (have ha1 : decide (0 < at') = false := decide_eq_false ha0
                 go_upto_region 12 with fail
                 rw [show Value.int .i64 0 = Value.int .i64 (tz : Int) from by rw [show (tz : Int) = 0 from by have := HTZ.out; omega]]
                 clear ha1)
          all_goals
            clear ha0
            refine wp_region_still_tail 13 (by kernel_rfl) (by kernel_rfl) ?_
            simp only [List.take_succ_cons, List.take_zero, List.drop_succ_cons, List.drop_zero]
            repeat still_step
            refine wpStill_nil ?_
            change wpList _ _ _ _ _ wr.drew
            go_upto_region 13 with fail
            rw [HE.out]
            have hP : (b.take tz ++ old.drop tz).length = 128 := by rw [List.length_append, List.length_take, List.length_drop, HB.out, HLS.out]; omega
            obtain ⟨P, hPe⟩ : ∃ P, b.take tz ++ old.drop tz = P := ⟨_, rfl⟩
            rw [hPe] at hP HPK ⊢
            have HD2 := Lib.hid ((HDK.out.setL k HKL.out P hP).drew)
            have HF2 := Lib.hid ((HFK.out.setCell (x := g.bl) (i := k) (.inr (.inl rfl)) (.string (Mt.str P))).drew)
            have HL2 : Hid ((wr.setCell ⟨g.bl, k, none⟩ (.string (Mt.str P))).drew.heap[nb]? = some (.cells #[.int .u64 (keep : Int), .int .i64 torn, .int .i64 at'] 42 (0, 0))) := Lib.hid (by
              show (wr.setCell ⟨g.bl, k, none⟩ (.string (Mt.str P))).heap[nb]? = _
              rw [heap_setCell_other _ _ _ _ (by have := (HDK.out.apart (by have := HKL.out; omega)).1; have := HND.out; show nb ≠ g.bl; omega)]; exact HLK.out)
            generalize (wr.setCell ⟨g.bl, k, none⟩ (.string (Mt.str P))).drew = u at *
            clear HDK HFK HLK c0 c1 cl p0 p1 p2 cw' fl fw hadd HE hPe HTZ
            have HKL2 : Hid (k < ((d.mid keep torn at' k).lasts.set k P).length) := Lib.hid (by rw [List.length_set]; exact HKL.out)
            have HKN2 : Hid (((d.mid keep torn at' k).lasts.set k P).length ≠ 0) := Lib.hid (by have := HKL2.out; omega)
            have c9 := HD2.out.c9
            have c0 := HD2.out.c0
            rw [slc_pos HKN2.out] at c0
            rw [List.length_set, Mt.mid_len, HN.out] at c0
            have cl : u.cell? ⟨g.bl, k, none⟩ = some (.string (Mt.str P)) := by
              have h := HD2.out.cL k HKL2.out
              have e : lastT { d.mid keep torn at' k with lasts := (d.mid keep torn at' k).lasts.set k P } k = Mt.str P := by
                unfold lastT
                show Mt.str (((d.mid keep torn at' k).lasts.set k P).getD k []) = _
                rw [List.getD_eq_getElem?_getD, List.getElem?_set_self HKL.out]; rfl
              rw [e] at h; exact h
            have HNBU := Lib.hid (lt_of_block HL2.out)
            have HRU := Lib.hid (show g.R < u.heap.size from Nat.lt_of_lt_of_le HD2.out.ltR HD2.out.size)
            obtain ⟨PS, hPS⟩ : ∃ PS, Mt.str P = PS := ⟨_, rfl⟩
            rw [hPS] at cl
            have HTC : Hid (tcs1 ++ [.string O, .string S, .string PS] = Mt.tearC (d.mid keep torn at' (k + 1)).tears) := Lib.hid (by
              rw [HNX.out]
              show _ = Mt.tearC ((d.mid keep torn at' k).tears ++ Mt.tear1 keep torn at' m old b)
              rw [Mt.tear1_yes HMT.out, Mt.tearC_append, ← HTN.out.2.2, ← HPK.out, ← hPS, ← hS, ← hO]
              rfl)
            clear hPS
            have hRu := HRU.out
            have HXC : Hid (∀ o k i, k < g.D → ((u.alloc o).drew).cell? ⟨k, i, none⟩ = u.cell? ⟨k, i, none⟩) := Lib.hid (fun o k i hk => ((Below.refl u.heap.size u).alloc (Nat.le_refl _) o).cell (p := ⟨k, i, none⟩) (by have := HD2.out.size; show k < u.heap.size; omega))
            have HDR := Lib.hid (And.intro HD2.out.ltR (HD2.out.apart HKN2.out).1)
            have hblu : g.bl < u.heap.size := Nat.lt_of_lt_of_le (HD2.out.apart HKN2.out).1 HD2.out.size
            have ag : tv1.ownBlock ≠ some g.R := fun e => by have := (HD2.out.tears.lt _ e).1; have := HD2.out.ltR; omega
            have al : tv1.ownBlock ≠ some g.bl := fun e => by have := (HD2.out.tears.lt _ e).1; have := (HD2.out.apart HKN2.out).1; omega
            go_region_law ((refine step_append_lies _ (by rfl) _ _ _ (by rfl) g.D 98 i0 _ 3 48 Tryz.underlying65 hi hz0 hz1 hz2 rfl (by decide) tv1 tn1 tcs1 (by rfl) ((HD2.out.alloc _).drew).tears ⟨u.heap.size, 0, none⟩ 1 1 [.string O, .string S, .string PS] (by rfl) (by rfl) (World.news_of_block (cs := #[.string O, .string S, .string PS]) (t := 98) (fr := (0, 0)) (heap_alloc_new u _)) (by simp [Value.oneCell']) (by decide) (by unfold maxLen; have := HTT.out; omega) (by have := HTT.out; omega) (Nat.le_trans HD2.out.size (by simp)) (u.heap.size + 1) (by simp) ?_; intro gg cap w4 hown4 hgrow hat4 hlt4; have HTR := Lib.hid (((HD2.out.alloc _).drew).tear hgrow _ _ _ hown4 (HD2.out.protNew hat4)); have c9' := HTR.out.2.2.1; have f9' := HTR.out.2.2.2.1))
            all_goals
              have HD5 := Lib.hid HTR.out.1
              have HF5 := Lib.hid ((HF2.out.alloc HD2.out.size _).drew.trans HTR.out.2.1)
              have HT5 : Hid ((Value.slice (some ⟨gg, 0, none⟩) (tn1 + 1) cap).ownBlock ≠ some nb) := Lib.hid (fun e => by
                have e2 : gg = nb := by simpa [Value.ownBlock] using e
                rcases hat4 with h | h
                · rw [e2] at h; exact HTK.out h
                · have := HNBU.out; omega)
              have HL5 := Lib.hid ((HTR.out.2.2.2.2.1 nb (Nat.lt_of_lt_of_le HNBU.out (by simp)) HTK.out (by have := HND.out; have := HDR.out.1; omega)).trans (((Below.refl u.heap.size u).alloc (Nat.le_refl _) _).block nb HNBU.out |>.trans HL2.out))
              clear HTR c9' f9' hown4 hgrow hat4 hlt4 HD2 HF2 HL2 c0 c9 cl ag al hRu hblu
              generalize (w4.setCell ⟨g.R, 9, none⟩ (.slice (some ⟨gg, 0, none⟩) (tn1 + 1) cap)) = x at *
              have c1 := HD5.out.c1
              rw [slc_pos HKN2.out, List.length_set, Mt.mid_len, HN.out] at c1
              have cw := HD5.out.cW k HKL2.out
              have fw := HD5.out.fW k HKN2.out
              go_wp2_with fail
              go_roundw
              case rel => exact ⟨k + 1, m + 1, _, _, _, by omega, by go_num, by go_num, HMN2, Lib.hid (HEND.out _ _ _ _ _ HD5.out HPK.out), Lib.hid (HF5.out.setCell (.inr (.inr rfl)) _), Lib.hid (by
                  rw [heap_setCell_other _ _ _ _ (by have := (HD5.out.apart HKN2.out).2.1; have := HND.out; show nb ≠ g.bw; omega)]; exact HL5.out), HT5, Lib.hid ⟨by have := HTT.out; omega, fun h => by have := HMT.out; omega, HTC.out⟩⟩
              case measure => simp [intOf]; omega
        · have ht1 : ((m : Int) == torn) = false := by simpa using htk
          have HTC : Hid (tcs1 = Mt.tearC (d.mid keep torn at' (k + 1)).tears) := Lib.hid (by
            rw [HNX.out]
            show _ = Mt.tearC ((d.mid keep torn at' k).tears ++ Mt.tear1 keep torn at' m old b)
            rw [Mt.tear1_no htk, List.append_nil]
            exact HTN.out.2.2)
          have htm : ∀ x : Nat, ((keep : Int) / 2 ^ (m % 64)) = (x : Int) → ((keep : Int) / 2 ^ (m % 64)).tmod 2 = ((x % 2 : Nat) : Int) := fun x hx => by rw [hx]; rfl
          have hdv : ((keep : Int) / 2 ^ (m % 64)) = ((keep / 2 ^ (m % 64) : Nat) : Int) := by simp
          have htm2 := htm _ hdv
          clear htm hdv
          by_cases hq : keep / 2 ^ (m % 64) % 2 = 1
          · have HPK : Hid (b = Mt.pick keep torn at' m old b) := Lib.hid (by unfold Mt.pick; rw [if_neg htk, if_pos hq])
            have hq2 : (((keep : Int) / 2 ^ (m % 64)).tmod 2 == 1) = true := by rw [htm2, hq]; rfl
            clear htk htm2 hq
            go_upto_region 16 with fail
            have HD2 := Lib.hid (HDK.out.setL k HKL.out b HB.out)
            have HF2 := Lib.hid (HFK.out.setCell (x := g.bl) (i := k) (.inr (.inl rfl)) (.string (Mt.str b)))
            have HL2 : Hid ((wr.setCell ⟨g.bl, k, none⟩ (.string (Mt.str b))).heap[nb]? = some (.cells #[.int .u64 (keep : Int), .int .i64 torn, .int .i64 at'] 42 (0, 0))) := Lib.hid (by
              rw [heap_setCell_other _ _ _ _ (by have := (HDK.out.apart (by have := HKL.out; omega)).1; have := HND.out; show nb ≠ g.bl; omega)]; exact HLK.out)
            generalize (wr.setCell ⟨g.bl, k, none⟩ (.string (Mt.str b))) = u at *
            clear HDK HFK HLK c0 c1 cl p0 p1 p2 cw' fl fw
            have HKL2 : Hid (k < ((d.mid keep torn at' k).lasts.set k b).length) := Lib.hid (by rw [List.length_set]; exact HKL.out)
            have c1 := HD2.out.c1
            rw [slc_pos (by have := HKL2.out; show ((d.mid keep torn at' k).lasts.set k b).length ≠ 0; omega)] at c1
            dsimp only at c1
            rw [List.length_set, Mt.mid_len, HN.out] at c1
            have cw := HD2.out.cW k HKL2.out
            have fw := HD2.out.fW k (by have := HKL2.out; show ((d.mid keep torn at' k).lasts.set k b).length ≠ 0; omega)
            go_wp2_with fail
            go_roundw
            case rel => exact ⟨k + 1, m + 1, tv1, tn1, tcs1, by omega, by go_num, by go_num, HMN2, Lib.hid (HEND.out _ _ _ _ _ HD2.out HPK.out), Lib.hid (HF2.out.setCell (.inr (.inr rfl)) _), Lib.hid (by
                rw [heap_setCell_other _ _ _ _ (by have := (HD2.out.apart (by have := HKL2.out; show ((d.mid keep torn at' k).lasts.set k b).length ≠ 0; omega)).2.1; have := HND.out; show nb ≠ g.bw; omega)]; exact HL2.out), HTK, Lib.hid ⟨HTN.out.1, fun h => HTN.out.2.1 (by omega), HTC.out⟩⟩
            case measure => simp [intOf]; omega
          · have HPK : Hid (old = Mt.pick keep torn at' m old b) := Lib.hid (by unfold Mt.pick; rw [if_neg htk, if_neg hq])
            have hq2 : (((keep : Int) / 2 ^ (m % 64)).tmod 2 == 1) = false := by
              rw [htm2]
              have : keep / 2 ^ (m % 64) % 2 = 0 := by omega
              rw [this]; rfl
            have HSAME : Hid ((d.mid keep torn at' k).lasts.set k old = (d.mid keep torn at' k).lasts) := Lib.hid (by
              have hkl := HKL.out
              have e : (d.mid keep torn at' k).lasts[k] = old := by rw [← HOLD.out, List.getD_eq_getElem?_getD, List.getElem?_eq_getElem hkl]; rfl
              rw [← e, List.set_getElem_self])
            clear htk htm2 hq
            go_wp2_with fail
            go_roundw
            case rel => exact ⟨k + 1, m + 1, tv1, tn1, tcs1, by omega, by go_num, by go_num, HMN2, Lib.hid (HEND.out _ old _ _ _ (by rw [HSAME.out]; exact HDK.out) HPK.out), Lib.hid (HFK.out.setCell (.inr (.inr rfl)) _), Lib.hid (by
                rw [heap_setCell_other _ _ _ _ (by have := (HDK.out.apart (by have := HKL.out; omega)).2.1; have := HND.out; show nb ≠ g.bw; omega)]; exact HLK.out), HTK, Lib.hid ⟨HTN.out.1, fun h => HTN.out.2.1 (by omega), HTC.out⟩⟩
            case measure => simp [intOf]; omega
    · obtain rfl : k = n := by omega
      go_wp2_with fail
      refine bodyPost_end (results_none rfl _ _ _) rfl ?_
      refine ⟨rfl, ⟨tv1, tn1, tcs1, ?_, HTN.out.1, by have h := HTN.out.2.2; rw [← HN.out, Mt.mid_all d HD.out.ok] at h; exact h⟩, HFK.out⟩
      rw [← Mt.mid_all d HD.out.ok, HN.out]
      exact HDK.out
end
end Go.Proofs.YtnioagojiipjlaaGreat

/-
  What 'fails', Write, Flush and Crash of the document's disk come to.
-/
namespace Go.Proofs.YtnioagojiipjlaaGreat
open Go.RowKit Go.Maps

section
variable {w : World} {g : Rg} {d : Mt.Dk} {t : Nat}

theorem elose_any (h : IsR w g t d) (keep : Nat) (torn at' : Int) (ht : t < 1000000) (hkp : keep < 18446744073709551616) (hto : -9223372036854775808 ≤ torn ∧ torn ≤ 9223372036854775807) (hat : -9223372036854775808 ≤ at' ∧ at' ≤ 9223372036854775807) :
    Calls Tryz.prog 54 #[.pointer (some ⟨g.R, 0, none⟩), .agg #[.int .u64 (keep : Int), .int .i64 torn, .int .i64 at']] w fun e w' => e = .returned (.tuple #[]) ∧ IsR w' g (t + 1) (d.lose keep torn at') ∧ Fr g w w' := by
  obtain ⟨lim, most, tv, tn, tcs, h, hn⟩ := h
  refine (elose_rd h hn.2 keep torn at' (by omega) hkp hto hat).mono ?_
  rintro e w' ⟨rfl, ⟨tv', tn', tcs', h', hn'⟩, hf⟩
  exact ⟨rfl, ⟨lim, most, tv', tn', tcs', h', by omega, hn'.2⟩, hf⟩

theorem IsR.set4 (h : IsR w g t d) (b : Bool) : IsR (w.setCell ⟨g.R, 4, none⟩ (.bool b)) g t { d with off := b } := by
  obtain ⟨lim, most, tv, tn, tcs, h, hn⟩ := h
  exact ⟨lim, most, tv, tn, tcs, h.field 4 _ { d with off := b } lim most tv tn tcs (h.ok.setOff b) rfl rfl rfl h.room h.most h.tears, hn⟩
theorem IsR.set5 (h : IsR w g t d) (c : Nat) (hc : c ≤ 9223372036854775807) : IsR (w.setCell ⟨g.R, 5, none⟩ (.int .i64 (c : Int))) g t { d with cut := c } := by
  obtain ⟨lim, most, tv, tn, tcs, h, hn⟩ := h
  exact ⟨lim, most, tv, tn, tcs, h.field 5 _ { d with cut := c } lim most tv tn tcs (h.ok.setCut c hc) rfl rfl rfl h.room h.most h.tears, hn⟩
theorem IsR.drew (h : IsR w g t d) : IsR w.drew g t d := by
  obtain ⟨lim, most, tv, tn, tcs, h, hn⟩ := h
  exact ⟨lim, most, tv, tn, tcs, h.drew, hn⟩
theorem IsR.alloc (h : IsR w g t d) (o : Obj) : IsR (w.alloc o) g t d := by
  obtain ⟨lim, most, tv, tn, tcs, h, hn⟩ := h
  exact ⟨lim, most, tv, tn, tcs, h.alloc o, hn⟩
theorem IsR.cells (h : IsR w g t d) : (∃ a, w.cell? ⟨g.R, 0, none⟩ = some (.slice a d.lasts.length g.cl)) ∧ w.cell? ⟨g.R, 4, none⟩ = some (.bool d.off) ∧ w.cell? ⟨g.R, 5, none⟩ = some (.int .i64 (d.cut : Int)) ∧ w.cell? ⟨g.R, 6, none⟩ = some (.int .u64 (d.keep : Int)) ∧ w.cell? ⟨g.R, 7, none⟩ = some (.int .i64 d.torn) ∧ w.cell? ⟨g.R, 8, none⟩ = some (.int .i64 d.at') ∧ ∀ i, w.frozen? ⟨g.R, i, none⟩ = false := by
  obtain ⟨lim, most, tv, tn, tcs, h, hn⟩ := h
  exact ⟨⟨_, h.c0⟩, h.c4, h.c5, h.c6, h.c7, h.c8, h.f⟩
theorem IsR.cellsN (h : IsR w g t d) (hn0 : d.lasts.length ≠ 0) : w.cell? ⟨g.R, 0, none⟩ = some (.slice (some ⟨g.bl, 0, none⟩) d.lasts.length g.cl) ∧ w.cell? ⟨g.R, 1, none⟩ = some (.slice (some ⟨g.bw, 0, none⟩) d.lasts.length g.cw) ∧ (∀ i, i < d.lasts.length → w.cell? ⟨g.bl, i, none⟩ = some (.string (lastT d i))) ∧ (∀ i, i < d.lasts.length → w.cell? ⟨g.bw, i, none⟩ = some (.string (waitT d i))) ∧ (∀ i, w.frozen? ⟨g.bl, i, none⟩ = false) ∧ ∀ i, w.frozen? ⟨g.bw, i, none⟩ = false := by
  obtain ⟨lim, most, tv, tn, tcs, h, hn⟩ := h
  have c0 := h.c0
  have c1 := h.c1
  rw [slc_pos hn0] at c0 c1
  exact ⟨c0, c1, h.cL, h.cW, fun i => h.fL i hn0, fun i => h.fW i hn0⟩
theorem IsR.setL (h : IsR w g t d) (k : Nat) (hk : k < d.lasts.length) (s : List UInt8) (hs : s.length = 128) : IsR (w.setCell ⟨g.bl, k, none⟩ (.string (Mt.str s))) g t { d with lasts := d.lasts.set k s } := by
  obtain ⟨lim, most, tv, tn, tcs, h, hn⟩ := h
  exact ⟨lim, most, tv, tn, tcs, h.setL k hk s hs, hn⟩
theorem IsR.setW (h : IsR w g t d) (k : Nat) (hk : k < d.lasts.length) (o : Option (List UInt8)) (ho : ∀ b, o = some b → b.length = 128) : IsR (w.setCell ⟨g.bw, k, none⟩ (.string (wtxt o))) g t { d with waits := d.waits.set k o } := by
  obtain ⟨lim, most, tv, tn, tcs, h, hn⟩ := h
  exact ⟨lim, most, tv, tn, tcs, h.setW k hk o ho, hn⟩

theorem RD.load3 {lim : Bool} {most : Nat} {tv : Value} {tn : Nat} {tcs : List Value} (h : RD w g d lim most tv tn tcs) : True := trivial

set_option maxRecDepth 100000 in
theorem efails_any (h : IsR w g t d) (ht : t < 1000000) : Calls Tryz.prog 88 #[.pointer (some ⟨g.R, 0, none⟩)] w fun e w' => e = .returned (.bool (d.count.2 == 10)) ∧ IsR w' g (t + 1) d.count.1 ∧ Fr g w w' := by
  obtain ⟨_, c4, c5, c6, c7, c8, f⟩ := h.cells
  have f5 := f 5
  have HD := Lib.hid h
  have HOK := Lib.hid h.ok
  by_cases h0 : d.cut = 0
  · have e : d.count = (d, 0) := by unfold Mt.Dk.count; rw [if_pos h0]
    rw [e]
    rw [h0] at c5
    clear h e h0 f
    go_enter Tryz.func88, Tryz.ntmps88
    go_wp2
    go_ret
    exact ⟨rfl, HD.out.mono (by omega), Fr.refl _ _⟩
  · by_cases h1 : d.cut = 1
    · have e : d.count = ({ ({ d with cut := 0 } : Mt.Dk).lose d.keep d.torn d.at' with off := true }, 10) := by unfold Mt.Dk.count; rw [if_neg h0, if_pos h1]
      rw [e]
      rw [h1] at c5
      have HD2 := Lib.hid (h.set5 0 (by omega))
      have HF2 := Lib.hid ((Fr.refl g w).setCell (x := g.R) (i := 5) (.inl rfl) (.int .i64 ((0 : Nat) : Int)))
      clear h e h0 h1
      go_enter Tryz.func88, Tryz.ntmps88
      go_upto_region 4 with fail
      change Code.wp _ _ _ _ (w.setCell ⟨g.R, 5, none⟩ (.int .i64 ((0 : Nat) : Int)))
      generalize (w.setCell ⟨g.R, 5, none⟩ (.int .i64 ((0 : Nat) : Int))) = u at *
      clear c4 c5 c6 c7 c8 f f5
      obtain ⟨_, c4, c5, c6, c7, c8, f⟩ := HD2.out.cells
      have HL := Lib.hid (elose_any HD2.out d.keep d.torn d.at' ht HOK.out.keep HOK.out.torn HOK.out.at')
      dsimp only at c4 c5 c6 c7 c8
      go_wp2_with fail
      refine (HL.out).mono ?_
      rintro e w' ⟨rfl, hd, hf⟩
      obtain ⟨_, c4, c5, c6, c7, c8, f⟩ := hd.cells
      have f4 := f 4
      have HD3 := Lib.hid (hd.set4 true)
      have HF3 := Lib.hid ((HF2.out.trans hf).setCell (x := g.R) (i := 4) (.inl rfl) (.bool true))
      clear hd hf f c5 c6 c7 c8
      go_wp2_with fail
      go_ret
      exact ⟨rfl, HD3.out, HF3.out⟩
    · have e : d.count = ({ d with cut := d.cut - 1 }, 0) := by unfold Mt.Dk.count; rw [if_neg h0, if_neg h1]
      rw [e]
      obtain ⟨c, hc⟩ : ∃ c, d.cut = c + 2 := ⟨d.cut - 2, by omega⟩
      have hcm := h.ok.cut
      have HP : Hid (∀ z : Int, z = (c + 1 : Nat) → IsR (w.setCell ⟨g.R, 5, none⟩ (.int .i64 z)) g t { d with cut := d.cut - 1 } ∧ Fr g w (w.setCell ⟨g.R, 5, none⟩ (.int .i64 z))) := Lib.hid (fun z hz => by
        subst hz
        rw [hc]
        exact ⟨h.set5 (c + 1) (by omega), (Fr.refl g w).setCell (.inl rfl) _⟩)
      rw [hc] at c5 hcm
      clear h e h0 h1 hc
      go_enter Tryz.func88, Tryz.ntmps88
      go_wp2
      go_ret
      exact ⟨rfl, (HP.out _ (by omega)).1.mono (by omega), (HP.out _ (by omega)).2⟩
end
end Go.Proofs.YtnioagojiipjlaaGreat
