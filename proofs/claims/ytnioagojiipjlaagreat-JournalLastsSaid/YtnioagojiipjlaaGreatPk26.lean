/-
  Some texts of one proof, one behind the other.
-/
import Derived.BigRegion
import Derived.Deep.RegionLaw
import Derived.Deep.DeepMust
import Derived.Test.YtnioagojiipjlaaGreatPk24
set_option linter.unusedVariables false
set_option linter.unusedSimpArgs false

/-
  What fill comes to: the walk.
-/
namespace Go.Proofs.YtnioagojiipjlaaGreat
open Go.RowKit
theorem Mt.endJ_1 {d : Mt.Dk} {j : Mt.Jn} (h : d.flush.2 ≠ 0) : Mt.endJ d j = d.flush := by unfold Mt.endJ; rw [if_neg h]
theorem Mt.endJ_2 {d : Mt.Dk} {j : Mt.Jn} (h : d.flush.2 = 0) (h2 : (d.flush.1.write (j.head : Int) (Mt.hdSector j.gen j.half)).2 ≠ 0) : Mt.endJ d j = d.flush.1.write (j.head : Int) (Mt.hdSector j.gen j.half) := by unfold Mt.endJ; rw [if_pos h, if_neg h2]
theorem Mt.endJ_3 {d : Mt.Dk} {j : Mt.Jn} (h : d.flush.2 = 0) (h2 : (d.flush.1.write (j.head : Int) (Mt.hdSector j.gen j.half)).2 = 0) : Mt.endJ d j = (d.flush.1.write (j.head : Int) (Mt.hdSector j.gen j.half)).1.flush := by unfold Mt.endJ; rw [if_pos h, if_pos h2]
section
variable {w u : World} {J B bl bm : Nat} {j : Mt.Jn} {d : Mt.Dk}
set_option maxRecDepth 100000 in
set_option maxHeartbeats 2000000 in
theorem fill_any (h : JD w J B bl bm j d) {v : Value} {bs : List (List UInt8)} (hv : IsTs w v bs) (hg : j.gen < 4294967296) (hb : ∀ b ∈ bs, b.length ≤ 1048576) (hu : j.used + Mt.needs bs ≤ 8192) (hc : j.count + bs.length ≤ 8192) :
    Calls Tryz.prog 68 #[.pointer (some ⟨J, 0, none⟩), v] w fun e w' => e = .returned (.int .i64 (Mt.fillJ d j bs).2.2) ∧ JD w' J B bl bm (Mt.fillJ d j bs).2.1 (Mt.fillJ d j bs).1 ∧ OnlyS [J, B, bl, bm] w w' := by
  have HTS := Lib.hid (fun u (ho : OnlyS [J, B, bl, bm] w u) => IsTs.only h hv ho)
  have HF0 : Hid (FillAt w w J B bl bm j d bs 0) := Lib.hid ⟨h, rfl, OnlyS.refl _ _⟩
  have HG := Lib.hid hg
  have HB := Lib.hid hb
  have HU := Lib.hid hu
  have HCO := Lib.hid hc
  have HN0 := Lib.hid (show bs.length ≤ 8192 by omega)
  obtain ⟨a, cap, rfl, HX⟩ := hv.open
  clear hv h hg hb hu hc
  obtain ⟨n, hn⟩ : ∃ n, bs.length = n := ⟨_, rfl⟩
  have HN := Lib.hid hn
  have hn8 : n ≤ 8192 := by have := HN0.out; omega
  rw [hn] at HTS ⊢
  clear hn
  go_enter Tryz.func68, Tryz.ntmps68
  go_wp2_with fail
  go_loopw [6, 7, 12] (fun _ _ i wr => ∃ k : Nat, k ≤ n ∧ i = .int .i64 k ∧ Hid (FillAt w wr J B bl bm j d bs k)) (fun _ _ i _ => n - (intOf i).toNat)
  case atStart => exact ⟨0, Nat.zero_le _, rfl, HF0⟩
  case round =>
    obtain ⟨k, hk, rfl, HFA⟩ := hrel
    by_cases hlt : k < n
    · have hkl : k < bs.length := by rw [HN.out]; exact hlt
      have hts := HTS.out wr HFA.out.only
      obtain ⟨a2, cap2, he, HX2⟩ := hts.open
      rw [HN.out] at he
      obtain ⟨rfl, rfl⟩ : a = a2 ∧ cap = cap2 := by cases he; exact ⟨rfl, rfl⟩
      obtain ⟨blk, off, rfl, hbl, hcell⟩ := HX2.out k hkl
      have hok := Mt.putsJ_ok _ _ _ HFA.out.ok
      have hkp := Mt.putsJ_keeps (bs.take k) d j
      have hsn := Mt.needs_snoc bs k hkl
      have htk := Mt.needs_take bs (k + 1)
      have htl : (bs.take k).length = k := by rw [List.length_take]; omega
      have HPUT := Lib.hid (put_any HFA.out.jd bs[k] (by rw [hkp.1]; exact HG.out) (HB.out _ (List.getElem_mem hkl)) (by rw [hok.2]; have := HU.out; omega) (by rw [hok.1, htl]; have := HCO.out; omega))
      have HNX := Lib.hid (fun u E hE hd ho => HFA.out.next (u := u) hkl (E := E) hE hd ho)
      clear hts HX2 he hok hkp hsn htk htl
      generalize Mt.str bs[k] = S at *
      go_wp2_with fail
      refine (HPUT.out).mono ?_
      rintro e w2 ⟨rfl, hd, ho⟩
      have HN2 := Lib.hid (HNX.out w2 _ rfl hd ho)
      clear HPUT HNX hd ho
      generalize (Mt.putJ (Mt.putsJ d j (bs.take k)).1 (Mt.putsJ d j (bs.take k)).2.1 bs[k]).2.2 = E at *
      by_cases he : E = 0
      · have HN3 := Lib.hid (HN2.out.1 he)
        subst he
        clear HN2
        go_wp2_with fail
        go_roundw
        case rel => exact ⟨k + 1, by omega, by go_num, HN3⟩
        case measure => simp [intOf]; omega
      · have HN3 := Lib.hid (HN2.out.2 he)
        have hd : (E == 0) = false := by simpa using he
        clear HN2 he
        go_wp2_with fail
        go_ret
        exact ⟨Mt.ret_int HN3.out.1.symm, HN3.out.2.1, HN3.out.2.2⟩
    · obtain rfl : k = n := by omega
      have ht : bs.take k = bs := List.take_of_length_le (by rw [HN.out]; exact Nat.le_refl _)
      have hjd := HFA.out.jd
      have hok := HFA.out.ok
      have hon := HFA.out.only
      have hkp := Mt.putsJ_keeps bs d j
      rw [ht] at hjd hok
      have HFJ := Lib.hid (show Mt.fillJ d j bs = ((Mt.endJ (Mt.putsJ d j bs).1 (Mt.putsJ d j bs).2.1).1, (Mt.putsJ d j bs).2.1, (Mt.endJ (Mt.putsJ d j bs).1 (Mt.putsJ d j bs).2.1).2) by unfold Mt.fillJ; rw [if_pos hok])
      clear ht hok HFA
      generalize (Mt.putsJ d j bs).1 = dX at *
      generalize (Mt.putsJ d j bs).2.1 = jX at *
      have hgX : jX.gen < 4294967296 := by rw [hkp.1]; exact HG.out
      have HHS : Hid (∀ u, Calls Tryz.prog 84 #[.agg #[.int .u64 (jX.gen : Int), .int .i64 (jX.half : Int)]] u fun e w' => e = .returned (.string (Mt.str (Mt.hdSector jX.gen jX.half))) ∧ Below u.heap.size u w') := Lib.hid (fun u => hsector_any jX.gen jX.half hgX (by have := hjd.half; omega) u)
      have HFL := Lib.hid (flush_any hjd.dk)
      have HJD := Lib.hid hjd
      have HON := Lib.hid hon
      obtain ⟨c0, c1, c2, c3, c4, c5, c6⟩ := hjd.jn.cells
      clear hkp hgX hjd hon
      go_wp2_with fail
      refine (HFL.out).mono ?_
      rintro e w2 ⟨rfl, hd, ho⟩
      have hj2 := HJD.out.disk hd ho (Mt.flush_len _ HJD.out.dk.ok)
      have HJ2 := Lib.hid hj2
      have HO2 := Lib.hid (HON.out.trans (ho.mono (T := [J, B, bl, bm]) (by intro x hx; simp at hx ⊢; omega)))
      clear hd ho c0 c1 c2 c3 c4 c5 c6
      obtain ⟨c0, c1, c2, c3, c4, c5, c6⟩ := hj2.jn.cells
      clear hj2 HFL
      generalize hE1 : dX.flush.2 = E1 at *
      have HE1 := Lib.hid hE1
      clear hE1
      by_cases he : E1 = 0
      · subst he
        have HCW : Hid (∀ u, Below w2.heap.size w2 u → u.cell? ⟨J, 0, none⟩ = some (.pointer (some ⟨B, 0, none⟩)) ∧ u.cell? ⟨J, 1, none⟩ = some (.int .u64 (jX.gen : Int)) ∧ u.cell? ⟨J, 2, none⟩ = some (.int .i64 (jX.half : Int)) ∧ u.cell? ⟨J, 3, none⟩ = some (.int .i64 (jX.head : Int))) := Lib.hid (fun u hb => by
          have h1 := (HJ2.out.below hb).jn.cells
          exact ⟨h1.1, h1.2.1, h1.2.2.1, h1.2.2.2.1⟩)
        have HCX : Hid (∀ u, OnlyS [B, bl, bm] w2 u → u.cell? ⟨J, 0, none⟩ = some (.pointer (some ⟨B, 0, none⟩)) ∧ u.cell? ⟨J, 1, none⟩ = some (.int .u64 (jX.gen : Int)) ∧ u.cell? ⟨J, 2, none⟩ = some (.int .i64 (jX.half : Int)) ∧ u.cell? ⟨J, 3, none⟩ = some (.int .i64 (jX.head : Int))) := Lib.hid (fun u hb => by
          have hne := HJ2.out.neJ
          have h2 : IsJ u J B jX := (hb.block _ HJ2.out.lt.1 (by simp; omega)).trans HJ2.out.jn
          have h1 := h2.cells
          exact ⟨h1.1, h1.2.1, h1.2.2.1, h1.2.2.2.1⟩)
        have HK := Lib.hid ((Below.refl w2.heap.size w2).drew)
        go_upto_region 11 with fail
        go_region_held3 (fun w' => w'.cell? ⟨J, 0, none⟩ = some (.pointer (some ⟨B, 0, none⟩)) ∧ w'.cell? ⟨J, 1, none⟩ = some (.int .u64 (jX.gen : Int)) ∧ w'.cell? ⟨J, 2, none⟩ = some (.int .i64 (jX.half : Int)) ∧ w'.cell? ⟨J, 3, none⟩ = some (.int .i64 (jX.head : Int)))
          (first
            | go_keep
            | exact qq)
          (first
            | (go_at_call 84; (with_reducible refine (HHS.out _).mono ?_); rintro e w3 ⟨rfl, hb⟩; have HK := Lib.hid (HK.out.trans (hb.mono HK.out.size)); have qq := HCW.out _ HK.out; clear hb)
            | (go_at_call 78; (with_reducible refine (write_any (HJ2.out.below HK.out).dk _ _).mono ?_); rintro e w4 ⟨rfl, hd, ho⟩; have HD := Lib.hid hd; have HON3 := Lib.hid ((Below.onlyS (S := [B, bl, bm]) HK.out (Nat.le_refl _)).trans ho); have qq := HCX.out w4 HON3.out; clear hd ho))
        all_goals
          have hj4 := HJ2.out.disk HD.out HON3.out (Mt.write_len _ _ _)
          have HJ4 := Lib.hid hj4
          have HO4 := Lib.hid (HO2.out.trans (HON3.out.mono (T := [J, B, bl, bm]) (by intro x hx; simp at hx ⊢; omega)))
          have HFL := Lib.hid (flush_any hj4.dk)
          clear c0 c1 c2 c3 c4 c5 c6 qq
          obtain ⟨c0, c1, c2, c3, c4, c5, c6⟩ := hj4.jn.cells
          clear hj4 HD HON3
          rw [Mt.str_data] at *
          generalize hE2 : (dX.flush.1.write (jX.head : Int) (Mt.hdSector jX.gen jX.half)).2 = E2 at *
          have HE2 := Lib.hid hE2
          clear hE2
          by_cases he2 : E2 = 0
          · subst he2
            go_wp2_with fail
            refine (HFL.out).mono ?_
            rintro e w5 ⟨rfl, hd, ho⟩
            have hj5 := HJ4.out.disk hd ho (Mt.flush_len _ HJ4.out.dk.ok)
            have HJ5 := Lib.hid hj5
            have HO5 := Lib.hid (HO4.out.trans (ho.mono (T := [J, B, bl, bm]) (by intro x hx; simp at hx ⊢; omega)))
            clear hj5 hd ho
            go_wp2_with fail
            go_ret
            rw [HFJ.out, Mt.endJ_3 HE1.out HE2.out]
            exact ⟨rfl, HJ5.out, HO5.out⟩
          · have hd2 : (E2 == 0) = false := by simpa using he2
            have HX2 := Lib.hid (show Mt.endJ dX jX = _ from Mt.endJ_2 HE1.out (by rw [HE2.out]; exact he2))
            clear he2
            go_wp2_with fail
            go_ret
            rw [HFJ.out, HX2.out]
            exact ⟨Mt.ret_int HE2.out.symm, HJ4.out, HO4.out⟩
      · have hd2 : (E1 == 0) = false := by simpa using he
        have HX1 := Lib.hid (show Mt.endJ dX jX = _ from Mt.endJ_1 (by rw [HE1.out]; exact he))
        clear he
        go_wp2_with fail
        go_ret
        rw [HFJ.out, HX1.out]
        exact ⟨Mt.ret_int HE1.out.symm, HJ2.out, HO2.out⟩
end
end Go.Proofs.YtnioagojiipjlaaGreat

/-
  What lay comes to.
-/
namespace Go.Proofs.YtnioagojiipjlaaGreat
open Go.RowKit
/-- What the journal holds behind lay: what it should. -/
def LaidJ (_ : List (List UInt8)) (j' c : Mt.Jn) : Prop := j' = c
theorem Mt.become_snd (j n : Mt.Jn) (e : Int) : (j.become n e).2 = e := by
  unfold Mt.Jn.become
  split
  · rename_i h; exact h.symm
  · rfl
section
variable {w u : World} {J B bl bm : Nat} {j : Mt.Jn} {d : Mt.Dk}
theorem JD.become' (h : JD w J B bl bm j d) {n : Mt.Jn} {x : Int} (hn : n.half ≤ 1 ∧ n.head ≤ 1 ∧ n.gen ≤ 4294967296 ∧ n.used ≤ 8192 ∧ n.count ≤ 8192) (hj : IsJ u J B (j.become n x).1) (ho : OnlyS [J] w u) : JD u J B bl bm (j.become n x).1 d := by
  unfold Mt.Jn.become at hj ⊢
  split at hj
  · rename_i hx
    rw [if_pos hx]
    exact h.put hj ho hn.1 hn.2.1 hn.2.2.1 hn.2.2.2.1 hn.2.2.2.2
  · rename_i hx
    rw [if_neg hx]
    exact h.put hj ho h.half h.head h.gen h.used h.count
theorem Mt.holds_needs {j : Mt.Jn} {d : Mt.Dk} {bs : List (List UInt8)} (h : j.holds d bs = true) : Mt.needs bs ≤ j.left d := by
  unfold Mt.Jn.holds at h
  rw [Bool.and_eq_true, decide_eq_true_eq, decide_eq_true_eq] at h
  exact h.2
set_option maxRecDepth 100000 in
set_option maxHeartbeats 1000000 in
theorem lay_any6 (h : JD w J B bl bm j d) {v : Value} {bs : List (List UInt8)} (hv : IsTs w v bs) (hn : bs.length ≤ 8796093022208) (hb : ∀ b ∈ bs, b.length ≤ 1048576) :
    Calls Tryz.prog 39 #[.pointer (some ⟨J, 0, none⟩), v] w fun e w' => e = .returned (.int .i64 (Mt.layJ d j bs).2.2) ∧ (∃ j', JD w' J B bl bm j' (Mt.layJ d j bs).1 ∧ LaidJ bs j' (Mt.layJ d j bs).2.1) ∧ OnlyS [J, B, bl, bm] w w' := by
  have hwb := (Below.refl w.heap.size w).alloc (Nat.le_refl _) (.cells (jnV B j.next) 94)
  have HO1 := Lib.hid (Below.onlyS (S := [J, B, bl, bm]) hwb (Nat.le_refl _))
  have HJ1 := Lib.hid (h.below hwb)
  have HV1 := Lib.hid (hv.below hwb)
  have HN1 : Hid (IsJ (w.alloc (.cells (jnV B j.next) 94)) w.heap.size B j.next) := Lib.hid (heap_alloc_new w _)
  have HND : Hid (j.next.gen ≤ 4294967296 → JD (w.alloc (.cells (jnV B j.next) 94)) w.heap.size B bl bm j.next d) := Lib.hid (fun hg => ⟨heap_alloc_new w _, (h.below hwb).dk, h.four, by show 1 - j.half ≤ 1; omega, by show 1 - j.head ≤ 1; omega, hg, Nat.zero_le _, Nat.zero_le _⟩)
  have hJN : J ≠ w.heap.size := by have := h.lt.1; omega
  have HJN := Lib.hid hJN
  obtain ⟨c0, c1, c2, c3, c4, c5, c6⟩ := h.jn.cells
  have hgl := h.gen
  have hhl := h.half
  have hkl := h.head
  have H := Lib.hid h
  have HB := Lib.hid hb
  have HNL := Lib.hid hn
  obtain ⟨g', hg'⟩ : ∃ g', j.gen + 1 = g' := ⟨_, rfl⟩
  obtain ⟨h', hh'⟩ : ∃ h', 1 - j.half = h' := ⟨_, rfl⟩
  obtain ⟨k', hk'⟩ : ∃ k', 1 - j.head = k' := ⟨_, rfl⟩
  have v1 : IntKind.u64.wrap ((j.gen : Int) + 1) = (g' : Int) := by rw [show ((j.gen : Int) + 1) = ((j.gen + 1 : Nat) : Int) by omega, Mt.u64_nat _ (by omega), hg']
  have v2 : IntKind.i64.wrap (1 - (j.half : Int)) = (h' : Int) := by rw [IntWalk.i64_in _ (by omega)]; omega
  have v3 : IntKind.i64.wrap (1 - (j.head : Int)) = (k' : Int) := by rw [IntWalk.i64_in _ (by omega)]; omega
  have HJV : Hid (jnV B j.next = #[.pointer (some ⟨B, 0, none⟩), .int .u64 (g' : Int), .int .i64 (h' : Int), .int .i64 (k' : Int), .int .i64 0, .int .i64 0, .bool false]) := Lib.hid (by unfold jnV Mt.Jn.next; rw [← hg', ← hh', ← hk']; rfl)
  have HGE := Lib.hid (show j.next.gen = g' from hg')
  rw [HJV.out] at HO1 HJ1 HV1 HN1 HND
  clear h hv hn hb hwb hg' hh' hk' hJN
  obtain ⟨a0, cp0, rfl, -, -⟩ := HV1.out
  go_enter Tryz.func39, Tryz.ntmps39
  go_upto_region 1 with fail
  go_region_held3 (fun w' => w'.cell? ⟨J, 0, none⟩ = some (.pointer (some ⟨B, 0, none⟩)) ∧ w'.cell? ⟨J, 1, none⟩ = some (.int .u64 (j.gen : Int)) ∧ w'.cell? ⟨J, 2, none⟩ = some (.int .i64 (j.half : Int)) ∧ w'.cell? ⟨J, 3, none⟩ = some (.int .i64 (j.head : Int)))
    (first
      | go_keep)
    (first
      | fail)
  have HJ2 := Lib.hid (HJ1.out.below ((Below.refl _ _).drew))
  have HV2 := Lib.hid (HV1.out.below ((Below.refl _ _).drew))
  have HO2 := Lib.hid (HO1.out.drew)
  have HN2 := Lib.hid (IsJ.below HN1.out ((Below.refl _ _).drew))
  have HND2 := Lib.hid (fun hg => (HND.out hg).below ((Below.refl _ _).drew))
  clear c0 c1 c2 c3 c4 c5 c6 HJ1 HV1 HO1 HN1 HND v1 v2 v3
  generalize (w.alloc (.cells #[.pointer (some ⟨B, 0, none⟩), .int .u64 (g' : Int), .int .i64 (h' : Int), .int .i64 (k' : Int), .int .i64 0, .int .i64 0, .bool false] 94)).drew = w2 at *
  have HNS : Hid (w.heap.size = w.heap.size) := Lib.hid rfl
  obtain ⟨N, hN⟩ : ∃ N, w.heap.size = N := ⟨_, rfl⟩
  rw [hN] at HN2 HND2 HJN ⊢
  have HNE := Lib.hid hN
  clear hN
  obtain ⟨n0, n1, n2, n3, n4, n5, n6⟩ := HN2.out.cells
  have hgn : (j.next.gen : Int) = (g' : Int) := by rw [HGE.out]
  rw [hgn] at n1
  clear hgn
  by_cases hg : 4294967295 < g'
  · have d1 : decide (4294967295 < g') = true := decide_eq_true hg
    have d2 : decide ((4294967295 : Int) < (g' : Int)) = true := decide_eq_true (by omega)
    have HR := Lib.hid (show Mt.layJ d j bs = (d, j, 11) by unfold Mt.layJ; rw [if_neg (by rw [HGE.out]; omega)])
    clear hg
    go_wp2_with fail
    go_ret
    rw [HR.out]
    exact ⟨rfl, ⟨j, HJ2.out, rfl⟩, HO2.out⟩
  · have d1 : decide (4294967295 < g') = false := decide_eq_false hg
    have d2 : decide ((4294967295 : Int) < (g' : Int)) = false := decide_eq_false (by omega)
    have hg2 : j.next.gen ≤ 4294967295 := by rw [HGE.out]; omega
    have hnd := HND2.out (by omega)
    have HHO := Lib.hid (holds_any hnd HV2.out HNL.out HB.out)
    have HNDX := Lib.hid hnd
    clear hg hnd HND2
    cases hho : j.next.holds d bs with
    | false =>
      have HR := Lib.hid (show Mt.layJ d j bs = (d, j, 11) by unfold Mt.layJ; rw [if_neg (by rw [hho]; simp)])
      rw [hho] at HHO
      clear hho hg2
      go_wp2_with fail
      refine (HHO.out).mono ?_
      rintro e w3 ⟨rfl, hb3⟩
      have HJ3 := Lib.hid (HJ2.out.below hb3)
      have HO3 := Lib.hid (HO2.out.then hb3)
      clear hb3
      go_wp2_with fail
      go_ret
      rw [HR.out]
      exact ⟨rfl, ⟨j, HJ3.out, rfl⟩, HO3.out⟩
    | true =>
      have HR := Lib.hid (show Mt.layJ d j bs = ((Mt.fillJ d j.next bs).1, j.become (Mt.fillJ d j.next bs).2.1 (Mt.fillJ d j.next bs).2.2) by unfold Mt.layJ; rw [if_pos ⟨hg2, hho⟩])
      have hnl := Mt.holds_needs hho
      have hz := hsize_le H.out
      have hlf : j.next.left d ≤ 4095 := by unfold Mt.Jn.left; omega
      have hlen := Mt.needs_len bs
      have HFI := Lib.hid (fun u (hu : JD u N B bl bm j.next d) (hv : IsTs u (.slice a0 bs.length cp0) bs) => fill_any hu hv (by omega) HB.out (by show 0 + Mt.needs bs ≤ 8192; omega) (by show 0 + bs.length ≤ 8192; omega))
      rw [hho] at HHO
      clear hho hg2 hnl hz hlf hlen
      go_wp2_with fail
      refine (HHO.out).mono ?_
      rintro e w3 ⟨rfl, hb3⟩
      have HJ3 := Lib.hid (HJ2.out.below hb3)
      have HN3 := Lib.hid (HNDX.out.below hb3)
      have HV3 := Lib.hid (HV2.out.below hb3)
      have HO3 := Lib.hid (HO2.out.then hb3)
      have HF3 := Lib.hid (HFI.out w3 HN3.out HV3.out)
      clear hb3 n0 n1 n2 n3 n4 n5 n6
      obtain ⟨n0, n1, n2, n3, n4, n5, n6⟩ := HN3.out.jn.cells
      -- behind fill
      have HAFT : Hid (∀ w4 : World, JD w4 N B bl bm (Mt.fillJ d j.next bs).2.1 (Mt.fillJ d j.next bs).1 → OnlyS [N, B, bl, bm] w3 w4 → JD w4 J B bl bm j (Mt.fillJ d j.next bs).1 ∧ OnlyS [J, B, bl, bm] w w4) := Lib.hid (fun w4 hd4 ho4 => by
        have hne := HJ3.out.neJ
        have hj : IsJ w4 J B j := (ho4.block _ HJ3.out.lt.1 (by have := HJN.out; simp; omega)).trans HJ3.out.jn
        refine ⟨⟨hj, hd4.dk, hd4.four, HJ3.out.half, HJ3.out.head, HJ3.out.gen, HJ3.out.used, HJ3.out.count⟩, ?_⟩
        refine ⟨ho4.os.trans HO3.out.os, ho4.tape.trans HO3.out.tape, ho4.output.trans HO3.out.output, Nat.le_trans HO3.out.size ho4.size, fun k hk hS => ?_⟩
        rw [ho4.block k (Nat.lt_of_lt_of_le hk HO3.out.size) (by have := HNE.out; simp at hS ⊢; omega)]
        exact HO3.out.block k hk hS)
      have HJV2 : Hid (jnV B (Mt.fillJ d j.next bs).2.1 = #[.pointer (some ⟨B, 0, none⟩), .int .u64 ((Mt.fillJ d j.next bs).2.1.gen : Int), .int .i64 ((Mt.fillJ d j.next bs).2.1.half : Int), .int .i64 ((Mt.fillJ d j.next bs).2.1.head : Int), .int .i64 ((Mt.fillJ d j.next bs).2.1.count : Int), .int .i64 ((Mt.fillJ d j.next bs).2.1.used : Int), .bool (Mt.fillJ d j.next bs).2.1.closed]) := Lib.hid rfl
      generalize (Mt.fillJ d j.next bs).2.1 = jF at *
      generalize (Mt.fillJ d j.next bs).1 = dF at *
      generalize (Mt.fillJ d j.next bs).2.2 = E at *
      have HB2 : Hid (∀ u, IsJ u J B j → Calls Tryz.prog 58 #[.pointer (some ⟨J, 0, none⟩), .agg #[.pointer (some ⟨B, 0, none⟩), .int .u64 (jF.gen : Int), .int .i64 (jF.half : Int), .int .i64 (jF.head : Int), .int .i64 (jF.count : Int), .int .i64 (jF.used : Int), .bool jF.closed], .int .i64 E] u fun e w' => e = .returned (.int .i64 E) ∧ IsJ w' J B (j.become jF E).1 ∧ OnlyS [J] u w') := Lib.hid (fun u hu => by
        have h1 := become_any hu jF E
        rw [HJV2.out, Mt.become_snd] at h1
        exact h1)
      have HPOST : Hid (∀ (w4 w5 : World), JD w4 N B bl bm jF dF → OnlyS [N, B, bl, bm] w3 w4 → IsJ w5 J B (j.become jF E).1 → OnlyS [J] w4 w5 → (∃ j', JD w5 J B bl bm j' (Mt.layJ d j bs).1 ∧ LaidJ bs j' (Mt.layJ d j bs).2.1) ∧ OnlyS [J, B, bl, bm] w w5) := Lib.hid (fun w4 w5 hd4 ho4 hj5 ho5 => by
        obtain ⟨hjd, hon⟩ := HAFT.out w4 hd4 ho4
        refine ⟨⟨(j.become jF E).1, ?_, ?_⟩, hon.trans (ho5.mono (by intro x hx; simp at hx ⊢; omega))⟩
        · rw [HR.out]
          refine hjd.become' ?_ hj5 ho5
          exact ⟨hd4.half, hd4.head, hd4.gen, hd4.used, hd4.count⟩
        · rw [HR.out]
          rfl)
      have HRE := Lib.hid (show (Mt.layJ d j bs).2.2 = E by rw [HR.out]; exact Mt.become_snd _ _ _)
      clear d1 d2 hgl hhl hkl HFI HHO HNDX
      go_wp2_with fail
      refine (HF3.out).mono ?_
      rintro e w4 ⟨rfl, hd4, ho4d⟩
      have ho4 : OnlyS [N, B, bl, bm] w3 w4 := ⟨ho4d.os, ho4d.tape, ho4d.output, ho4d.size, ho4d.block⟩
      have HD4 := Lib.hid hd4
      have HO4 := Lib.hid ho4
      obtain ⟨m0, m1, m2, m3, m4, m5, m6⟩ := hd4.jn.cells
      have HJX := Lib.hid (HAFT.out w4 hd4 ho4).1.jn
      clear hd4 ho4 ho4d
      go_wp2_with fail
      refine (HB2.out _ HJX.out).mono ?_
      rintro e w5 ⟨rfl, hj5, ho5⟩
      have HP := Lib.hid (HPOST.out w4 w5 HD4.out HO4.out hj5 ho5)
      clear hj5 ho5
      go_wp2_with fail
      go_ret
      exact ⟨Mt.ret_int HRE.out.symm, HP.out.1, HP.out.2⟩
end
end Go.Proofs.YtnioagojiipjlaaGreat

/-
  What Reset and Append come to.
-/
namespace Go.Proofs.YtnioagojiipjlaaGreat
open Go.RowKit
section
variable {w u : World} {J B bl bm : Nat} {j : Mt.Jn} {d : Mt.Dk}
theorem reset_nil6 (v : Value) (w : World) : Calls Tryz.prog 18 #[.pointer none, v] w fun e w' => e = .returned (.int .i64 1) ∧ w = w' := by
  have HA := Lib.hid (ask_nil6 v w)
  go_enter Tryz.func18, Tryz.ntmps18
  go_wp2_with fail
  refine (HA.out).mono ?_
  rintro e w1 ⟨rfl, rfl⟩
  go_wp2_with fail
  go_ret
  exact ⟨rfl, rfl⟩
theorem append_nil6 (s : ByteArray) (w : World) : Calls Tryz.prog 27 #[.pointer none, .string s] w fun e w' => e = .returned (.int .i64 1) ∧ Below w.heap.size w w' := by
  have HA := Lib.hid (fun v u => ask_nil6 v u)
  have HB := Lib.hid ((Below.refl w.heap.size w).alloc (Nat.le_refl _) (.cells #[.string s] 9))
  go_enter Tryz.func27, Tryz.ntmps27
  go_wp2_with fail
  refine (HA.out _ _).mono ?_
  rintro e w1 ⟨rfl, rfl⟩
  go_wp2_with fail
  go_ret
  exact ⟨rfl, HB.out⟩
theorem Mt.ask_small {j : Mt.Jn} {bs : List (List UInt8)} (h : Mt.askJ j bs = 0) : ∀ b ∈ bs, b.length ≤ 262144 := by
  unfold Mt.askJ at h
  split at h
  · cases h
  · split at h
    · rename_i h2
      rw [List.all_eq_true] at h2
      intro b hb
      simpa using h2 b hb
    · cases h
theorem reset_any6 (h : JD w J B bl bm j d) {v : Value} {bs : List (List UInt8)} (hv : IsTs w v bs) (hn : bs.length ≤ 8796093022208) :
    Calls Tryz.prog 18 #[.pointer (some ⟨J, 0, none⟩), v] w fun e w' => e = .returned (.int .i64 (Mt.resetJ d j bs).2.2) ∧ (∃ j', JD w' J B bl bm j' (Mt.resetJ d j bs).1 ∧ LaidJ bs j' (Mt.resetJ d j bs).2.1) ∧ OnlyS [J, B, bl, bm] w w' := by
  have HA := Lib.hid (ask6_any h.jn hv (by omega))
  by_cases ha : Mt.askJ j bs = 0
  · have HR := Lib.hid (show Mt.resetJ d j bs = Mt.layJ d j bs by unfold Mt.resetJ; rw [if_pos ha])
    have HL := Lib.hid (lay_any6 h hv hn (fun b hb => by have := Mt.ask_small ha b hb; omega))
    rw [ha] at HA
    clear h hv hn ha
    go_enter Tryz.func18, Tryz.ntmps18
    go_wp2_with fail
    refine (HA.out).mono ?_
    rintro e w1 ⟨rfl, rfl⟩
    go_wp2_with fail
    refine (HL.out).mono ?_
    rintro e w1 ⟨rfl, hd, ho⟩
    go_wp2_with fail
    go_ret
    rw [HR.out]
    exact ⟨rfl, hd, ho⟩
  · have HR := Lib.hid (show Mt.resetJ d j bs = (d, j, Mt.askJ j bs) by unfold Mt.resetJ; rw [if_neg ha])
    have H := Lib.hid h
    generalize Mt.askJ j bs = x at *
    have hd : (x == 0) = false := by simpa using ha
    clear h hv hn ha
    go_enter Tryz.func18, Tryz.ntmps18
    go_wp2_with fail
    refine (HA.out).mono ?_
    rintro e w1 ⟨rfl, rfl⟩
    go_wp2_with fail
    go_ret
    rw [HR.out]
    exact ⟨rfl, ⟨j, H.out, rfl⟩, OnlyS.refl _ _⟩
end
end Go.Proofs.YtnioagojiipjlaaGreat

/-
  What readAll comes to: the sectors of a disk.
-/
namespace Go.Proofs.YtnioagojiipjlaaGreat
open Go.RowKit

theorem Tryz.infoStr6 : (Tryz.prog.info? 9).map (fun i => (i.zero, i.size, i.bytes)) = some (some (.string ⟨#[]⟩), 1, 16) := by kernel_rfl
theorem make_strs (k : Nat) (hk : k ≤ 100000) (w : World) : (Instr.makeSlice 30 (.int .i64 (k : Int)) (.int .i64 (k : Int))).run Tryz.prog w = .ok (.slice (some ⟨w.heap.size, 0, none⟩) k k) (w.alloc (.cells (Array.replicate k (.string ⟨#[]⟩)) 9)) := by
  obtain ⟨i, hi, hz, hs, hb⟩ := info_parts Tryz.infoStr6
  have h := run_make (P := Tryz.prog) w 30 9 i _ Tryz.underlying30 hi hz .i64 .i64 (k : Int) (k : Int) (by omega) (Int.le_refl _) (by rw [hb]; omega) (by omega)
  rw [Int.toNat_natCast, hs, Nat.mul_one] at h
  have e : madeCells (Value.string ⟨#[]⟩).cells k = Array.replicate k (.string ⟨#[]⟩) := made_all _ (.string ⟨#[]⟩) k 1 rfl (by decide) (fun j hj => by (obtain rfl : j = 0 := by omega); rfl)
  rw [e] at h
  exact h
/-- The cells of texts. -/
def tcs (ls : List (List UInt8)) : List Value := ls.map fun l => Value.string (Mt.str l)
theorem tcs_length (ls : List (List UInt8)) : (tcs ls).length = ls.length := by simp [tcs]
theorem tcs_append (a b : List (List UInt8)) : tcs (a ++ b) = tcs a ++ tcs b := by simp [tcs]
/-- A row of texts, of which so many are there. -/
def trow (ls : List (List UInt8)) (k : Nat) : Array Value := (tcs (ls.take k) ++ List.replicate (ls.length - k) (Value.string ⟨#[]⟩)).toArray
theorem trow_zero (ls : List (List UInt8)) : trow ls 0 = Array.replicate ls.length (Value.string ⟨#[]⟩) := by
  unfold trow tcs
  apply Array.ext'
  simp
theorem trow_size (ls : List (List UInt8)) (k : Nat) (h : k ≤ ls.length) : (trow ls k).size = ls.length := by
  unfold trow
  simp [tcs_length]; omega
theorem trow_set (ls : List (List UInt8)) (k : Nat) (h : k < ls.length) : (trow ls k).setIfInBounds k (.string (Mt.str ls[k])) = trow ls (k + 1) := by
  unfold trow
  apply Array.ext'
  have hl : (tcs (ls.take k)).length = k := by rw [tcs_length, List.length_take]; omega
  have e : ls.length - k = (ls.length - (k + 1)) + 1 := by omega
  rw [Array.toList_setIfInBounds, List.set_append_right _ _ (by rw [hl]; exact Nat.le_refl _), hl, Nat.sub_self, e, List.replicate_succ, List.set_cons_zero, List.take_succ_eq_append_getElem h, tcs_append, List.append_assoc]
  rfl
theorem trow_full (ls : List (List UInt8)) : trow ls ls.length = (tcs ls).toArray := by
  unfold trow
  simp
theorem trow_cell (ls : List (List UInt8)) (k j : Nat) (h : k ≤ ls.length) (hj : j < ls.length) : ∃ v : Value, (trow ls k)[j]? = some v := by
  have : j < (trow ls k).size := by rw [trow_size ls k h]; exact hj
  exact ⟨_, Array.getElem?_eq_getElem this⟩
/-- What stands in the sectors. -/
def Mt.secsL (d : Mt.Dk) : List (List UInt8) := (List.range d.lasts.length).map fun i => d.sec i
theorem Mt.secsL_length (d : Mt.Dk) : (Mt.secsL d).length = d.lasts.length := by simp [Mt.secsL]
theorem Mt.secsL_get (d : Mt.Dk) (k : Nat) (h : k < (Mt.secsL d).length) : (Mt.secsL d)[k] = (d.read (k : Int)).1 := by simp [Mt.secsL, Mt.Dk.sec]
theorem Mt.read_on {d : Mt.Dk} (ho : d.off = false) {k : Nat} (hk : k < d.lasts.length) : (d.read (k : Int)).2 = 0 := by
  have : d.ask (k : Int) = 0 := by unfold Mt.Dk.ask; rw [ho]; simp; omega
  unfold Mt.Dk.read
  rw [if_pos this]
theorem Mt.read_off {d : Mt.Dk} (ho : d.off = true) (i : Int) : d.read i = ([], 10) := by
  have : d.ask i = 10 := by unfold Mt.Dk.ask; rw [ho]; rfl
  unfold Mt.Dk.read
  rw [this]; simp
theorem isTs_row {w : World} {g n : Nat} {ls : List (List UInt8)} (hn : ls.length = n) (h : w.heap[g]? = some (.cells (tcs ls).toArray 9 (0, 0))) : IsTs w (.slice (some ⟨g, 0, none⟩) n n) ls := by
  subst hn
  refine ⟨some ⟨g, 0, none⟩, ls.length, rfl, Nat.le_refl _, .inr ⟨g, 0, rfl, lt_of_block h, fun j hj => ?_⟩⟩
  rw [cell_of_row _ _ _ _ _ _ h]
  simp [tcs, List.getElem?_eq_getElem hj]

section
variable {w u : World} {B bl bm : Nat} {d : Mt.Dk}
set_option maxRecDepth 100000 in
theorem readAll_off (h : IsDisk w B bl bm d) (ho : d.off = true) (h0 : 0 < d.lasts.length) : Calls Tryz.prog 37 #[.pointer (some ⟨B, 0, none⟩)] w fun e w' => e = .returned (.tuple #[.slice none 0 0, .int .i64 10]) ∧ Below w.heap.size w w' := by
  have hn8 := h.ok.most
  have HS := Lib.hid (sectors_any h)
  have HMK := Lib.hid (make_strs d.lasts.length (by omega))
  have HRD := Lib.hid (fun u (hb : Below w.heap.size w u) => read_any (h.below hb) 0)
  have HRV := Lib.hid (Mt.read_off ho 0)
  clear h ho
  generalize d.lasts.length = n at *
  have HB1 := Lib.hid ((Below.refl w.heap.size w).alloc (Nat.le_refl _) (.cells (Array.replicate n (.string ⟨#[]⟩)) 9))
  have hmk := HMK.out
  go_enter Tryz.func37, Tryz.ntmps37
  go_wp2_with fail
  refine (HS.out).mono ?_
  rintro e w1 ⟨rfl, rfl⟩
  go_wp2_with fail
  clear hmk
  refine wp_loop_rounds 1 ?_
  rw [rounds_succ]
  go_wp2_with fail
  refine (HRD.out _ HB1.out).mono ?_
  rintro e w2 ⟨rfl, hb⟩
  rw [HRV.out]
  have HB2 := Lib.hid (HB1.out.trans (hb.mono HB1.out.size))
  clear hb
  go_wp2_with fail
  go_ret2
  exact ⟨rfl, HB2.out⟩
set_option maxRecDepth 100000 in
theorem readAll_on (h : IsDisk w B bl bm d) (ho : d.off = false) : Calls Tryz.prog 37 #[.pointer (some ⟨B, 0, none⟩)] w fun e w' => ∃ v, e = .returned (.tuple #[v, .int .i64 0]) ∧ IsTs w' v (Mt.secsL d) ∧ Below w.heap.size w w' := by
  have hn8 := h.ok.most
  have HS := Lib.hid (sectors_any h)
  have HMK := Lib.hid (make_strs d.lasts.length (by omega))
  have HRD := Lib.hid (fun u (hb : Below w.heap.size w u) (i : Int) => read_any (h.below hb) i)
  have HRV := Lib.hid (fun k (hk : k < d.lasts.length) => Mt.read_on ho hk)
  have HSL := Lib.hid (Mt.secsL_length d)
  have HSG := Lib.hid (fun k hk => Mt.secsL_get d k hk)
  have HR0 := Lib.hid (trow_zero (Mt.secsL d))
  have HRS := Lib.hid (fun k hk => trow_set (Mt.secsL d) k hk)
  have HRC := Lib.hid (fun k j h hj => trow_cell (Mt.secsL d) k j h hj)
  have HRF := Lib.hid (trow_full (Mt.secsL d))
  have HPOST : Hid (∀ (v : Value) (w' : World), IsTs w' v (Mt.secsL d) → Below w.heap.size w w' → (fun (e : Ending) (w' : World) => ∃ v, e = .returned (.tuple #[v, .int .i64 0]) ∧ IsTs w' v (Mt.secsL d) ∧ Below w.heap.size w w') (.returned (.tuple #[v, .int .i64 0])) w') := Lib.hid (fun v w' h1 h2 => ⟨v, rfl, h1, h2⟩)
  generalize hPP : (fun (e : Ending) (w' : World) => ∃ v, e = .returned (.tuple #[v, .int .i64 0]) ∧ IsTs w' v (Mt.secsL d) ∧ Below w.heap.size w w') = PP at *
  clear h ho hPP
  generalize Mt.secsL d = ls at *
  generalize d.lasts.length = n at *
  rw [HSL.out] at HR0 HRF HRC
  have hb1 := (Below.refl w.heap.size w).alloc (Nat.le_refl _) (.cells (trow ls 0) 9)
  have hx1 := heap_alloc_new w (.cells (trow ls 0) 9)
  rw [HR0.out] at hb1 hx1
  have HB1 := Lib.hid hb1
  have HX1 := Lib.hid hx1
  clear hb1 hx1
  have hmk := HMK.out
  go_enter Tryz.func37, Tryz.ntmps37
  go_wp2_with fail
  refine (HS.out).mono ?_
  rintro e w1 ⟨rfl, rfl⟩
  go_wp2_with fail
  clear hmk
  go_loopw [5, 6, 7, 13] (fun _ _ _ i wr => ∃ k : Nat, k ≤ n ∧ i = .int .i64 k ∧ Hid (Below w.heap.size w wr) ∧ Hid (wr.heap[w.heap.size]? = some (.cells (trow ls k) 9 (0, 0)))) (fun _ _ _ i _ => n - (intOf i).toNat)
  case atStart => exact ⟨0, Nat.zero_le _, rfl, HB1, Lib.hid (by rw [HR0.out]; exact HX1.out)⟩
  case round =>
    obtain ⟨k, hk, rfl, HB, HX⟩ := hrel
    by_cases hlt : k < n
    · have hkl : k < ls.length := by rw [HSL.out]; exact hlt
      go_wp2_with fail
      refine (HRD.out _ HB.out _).mono ?_
      rintro e w2 ⟨rfl, hb⟩
      rw [HRV.out k hlt, ← HSG.out k hkl]
      have HB2 := Lib.hid (HB.out.trans (hb.mono HB.out.size))
      have hx2 := (hb.block _ (lt_of_block HX.out)).trans HX.out
      obtain ⟨v0, hv0⟩ := HRC.out k k hk hlt
      have hc0 : w2.cell? ⟨w.heap.size, k, none⟩ = some v0 := by rw [cell_of_row _ _ _ _ _ _ hx2]; exact hv0
      have hf0 : w2.frozen? ⟨w.heap.size, k, none⟩ = false := frozen_of_row _ _ _ _ _ hx2
      have HX3 := Lib.hid (show (w2.setCell ⟨w.heap.size, k, none⟩ (.string (Mt.str ls[k]))).heap[w.heap.size]? = some (.cells (trow ls (k + 1)) 9 (0, 0)) by rw [heap_setCell_same _ _ _ _ _ _ hx2, HRS.out k hkl])
      have HB3 := Lib.hid (HB2.out.setCell (p := ⟨w.heap.size, k, none⟩) (Nat.le_refl _) (.string (Mt.str ls[k])))
      clear hb hx2 hv0
      generalize Mt.str ls[k] = S at *
      go_wp2_with fail
      go_roundw
      case rel => exact ⟨k + 1, by omega, by go_num, HB3, HX3⟩
      case measure => simp [intOf]; omega
    · obtain rfl : k = n := by omega
      go_wp2_with fail
      exact HPOST.out _ _ (isTs_row HSL.out (by rw [← HRF.out]; exact HX.out)) HB.out
end
end Go.Proofs.YtnioagojiipjlaaGreat
