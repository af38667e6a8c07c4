/-
  What fill comes to: the walk.
-/
import Derived.Test.YtmahkgkhnpffeaaJrM
namespace Go.Proofs.Ytmahkgkhnpffeaa
open Go.RowKit
theorem Mt.endJ_1 {d : Mt.Dk} {j : Mt.Jn} (h : d.flush.2 ≠ 0) : Mt.endJ d j = d.flush := by unfold Mt.endJ; rw [if_neg h]
theorem Mt.endJ_2 {d : Mt.Dk} {j : Mt.Jn} (h : d.flush.2 = 0) (h2 : (d.flush.1.write (j.head : Int) (Mt.hdSector j.gen j.half)).2 ≠ 0) : Mt.endJ d j = d.flush.1.write (j.head : Int) (Mt.hdSector j.gen j.half) := by unfold Mt.endJ; rw [if_pos h, if_neg h2]
theorem Mt.endJ_3 {d : Mt.Dk} {j : Mt.Jn} (h : d.flush.2 = 0) (h2 : (d.flush.1.write (j.head : Int) (Mt.hdSector j.gen j.half)).2 = 0) : Mt.endJ d j = (d.flush.1.write (j.head : Int) (Mt.hdSector j.gen j.half)).1.flush := by unfold Mt.endJ; rw [if_pos h, if_pos h2]
section
variable {w u : World} {J B bl bm : Nat} {j : Mt.Jn} {d : Mt.Dk}
set_option maxRecDepth 100000 in
set_option maxHeartbeats 2000000 in
theorem fill_any (h : JD w J B bl bm j d) {v : Value} {bs : List (List UInt8)} (hv : IsTs w v bs) (hg : j.gen < 4294967296) (hb : ∀ b ∈ bs, b.length ≤ 1048576) (hu : j.used + Mt.needs bs ≤ 8192) (hc : j.count + bs.length ≤ 8192) :
    Calls Try.prog 39 #[.pointer (some ⟨J, 0, none⟩), v] w fun e w' => e = .returned (.int .i64 (Mt.fillJ d j bs).2.2) ∧ JD w' J B bl bm (Mt.fillJ d j bs).2.1 (Mt.fillJ d j bs).1 ∧ OnlyS [J, B, bl, bm] w w' := by
  have HTS := Lib.hid (fun u (ho : OnlyS [J, B, bl, bm] w u) => IsTs.only h hv ho)
  have HF0 : Hid (FillAt w w J B bl bm j d bs 0) := Lib.hid ⟨h, rfl, OnlyS.refl _ _⟩
  have HG := Lib.hid hg
  have HB := Lib.hid hb
  have HU := Lib.hid hu
  have HCO := Lib.hid hc
  have HN0 := Lib.hid (show bs.length ≤ 8192 by omega)
  obtain ⟨a, cap, rfl, HX⟩ := hv.open
  clear hv h hg hb hu hc
  obtain ⟨n, hn⟩ : ∃ n, bs.length = n := ⟨_, rfl⟩
  have HN := Lib.hid hn
  have hn8 : n ≤ 8192 := by have := HN0.out; omega
  rw [hn] at HTS ⊢
  clear hn
  go_enter Try.func39, Try.ntmps39
  go_wp2_with fail
  go_loopw [6, 7, 12] (fun _ _ i wr => ∃ k : Nat, k ≤ n ∧ i = .int .i64 k ∧ Hid (FillAt w wr J B bl bm j d bs k)) (fun _ _ i _ => n - (intOf i).toNat)
  case atStart => exact ⟨0, Nat.zero_le _, rfl, HF0⟩
  case round =>
    obtain ⟨k, hk, rfl, HFA⟩ := hrel
    by_cases hlt : k < n
    · have hkl : k < bs.length := by rw [HN.out]; exact hlt
      have hts := HTS.out wr HFA.out.only
      obtain ⟨a2, cap2, he, HX2⟩ := hts.open
      rw [HN.out] at he
      obtain ⟨rfl, rfl⟩ : a = a2 ∧ cap = cap2 := by cases he; exact ⟨rfl, rfl⟩
      obtain ⟨blk, off, rfl, hbl, hcell⟩ := HX2.out k hkl
      have hok := Mt.putsJ_ok _ _ _ HFA.out.ok
      have hkp := Mt.putsJ_keeps (bs.take k) d j
      have hsn := Mt.needs_snoc bs k hkl
      have htk := Mt.needs_take bs (k + 1)
      have htl : (bs.take k).length = k := by rw [List.length_take]; omega
      have HPUT := Lib.hid (put_any HFA.out.jd bs[k] (by rw [hkp.1]; exact HG.out) (HB.out _ (List.getElem_mem hkl)) (by rw [hok.2]; have := HU.out; omega) (by rw [hok.1, htl]; have := HCO.out; omega))
      have HNX := Lib.hid (fun u E hE hd ho => HFA.out.next (u := u) hkl (E := E) hE hd ho)
      clear hts HX2 he hok hkp hsn htk htl
      generalize Mt.str bs[k] = S at *
      go_wp2_with fail
      refine (HPUT.out).mono ?_
      rintro e w2 ⟨rfl, hd, ho⟩
      have HN2 := Lib.hid (HNX.out w2 _ rfl hd ho)
      clear HPUT HNX hd ho
      generalize (Mt.putJ (Mt.putsJ d j (bs.take k)).1 (Mt.putsJ d j (bs.take k)).2.1 bs[k]).2.2 = E at *
      by_cases he : E = 0
      · have HN3 := Lib.hid (HN2.out.1 he)
        subst he
        clear HN2
        go_wp2_with fail
        go_roundw
        case rel => exact ⟨k + 1, by omega, by go_num, HN3⟩
        case measure => simp [intOf]; omega
      · have HN3 := Lib.hid (HN2.out.2 he)
        have hd : (E == 0) = false := by simpa using he
        clear HN2 he
        go_wp2_with fail
        go_ret
        exact ⟨Mt.ret_int HN3.out.1.symm, HN3.out.2.1, HN3.out.2.2⟩
    · obtain rfl : k = n := by omega
      have ht : bs.take k = bs := List.take_of_length_le (by rw [HN.out]; exact Nat.le_refl _)
      have hjd := HFA.out.jd
      have hok := HFA.out.ok
      have hon := HFA.out.only
      have hkp := Mt.putsJ_keeps bs d j
      rw [ht] at hjd hok
      have HFJ := Lib.hid (show Mt.fillJ d j bs = ((Mt.endJ (Mt.putsJ d j bs).1 (Mt.putsJ d j bs).2.1).1, (Mt.putsJ d j bs).2.1, (Mt.endJ (Mt.putsJ d j bs).1 (Mt.putsJ d j bs).2.1).2) by unfold Mt.fillJ; rw [if_pos hok])
      clear ht hok HFA
      generalize (Mt.putsJ d j bs).1 = dX at *
      generalize (Mt.putsJ d j bs).2.1 = jX at *
      have hgX : jX.gen < 4294967296 := by rw [hkp.1]; exact HG.out
      have HHS : Hid (∀ u, Calls Try.prog 49 #[.agg #[.int .u64 (jX.gen : Int), .int .i64 (jX.half : Int)]] u fun e w' => e = .returned (.string (Mt.str (Mt.hdSector jX.gen jX.half))) ∧ Below u.heap.size u w') := Lib.hid (fun u => hsector_any jX.gen jX.half hgX (by have := hjd.half; omega) u)
      have HFL := Lib.hid (flush_any hjd.dk)
      have HJD := Lib.hid hjd
      have HON := Lib.hid hon
      obtain ⟨c0, c1, c2, c3, c4, c5, c6⟩ := hjd.jn.cells
      clear hkp hgX hjd hon
      go_wp2_with fail
      refine (HFL.out).mono ?_
      rintro e w2 ⟨rfl, hd, ho⟩
      have hj2 := HJD.out.disk hd ho (Mt.flush_len _ HJD.out.dk.ok)
      have HJ2 := Lib.hid hj2
      have HO2 := Lib.hid (HON.out.trans (ho.mono (T := [J, B, bl, bm]) (by intro x hx; simp at hx ⊢; omega)))
      clear hd ho c0 c1 c2 c3 c4 c5 c6
      obtain ⟨c0, c1, c2, c3, c4, c5, c6⟩ := hj2.jn.cells
      clear hj2 HFL
      generalize hE1 : dX.flush.2 = E1 at *
      have HE1 := Lib.hid hE1
      clear hE1
      by_cases he : E1 = 0
      · subst he
        have HCW : Hid (∀ u, Below w2.heap.size w2 u → u.cell? ⟨J, 0, none⟩ = some (.pointer (some ⟨B, 0, none⟩)) ∧ u.cell? ⟨J, 1, none⟩ = some (.int .u64 (jX.gen : Int)) ∧ u.cell? ⟨J, 2, none⟩ = some (.int .i64 (jX.half : Int)) ∧ u.cell? ⟨J, 3, none⟩ = some (.int .i64 (jX.head : Int))) := Lib.hid (fun u hb => by
          have h1 := (HJ2.out.below hb).jn.cells
          exact ⟨h1.1, h1.2.1, h1.2.2.1, h1.2.2.2.1⟩)
        have HCX : Hid (∀ u, OnlyS [B, bl, bm] w2 u → u.cell? ⟨J, 0, none⟩ = some (.pointer (some ⟨B, 0, none⟩)) ∧ u.cell? ⟨J, 1, none⟩ = some (.int .u64 (jX.gen : Int)) ∧ u.cell? ⟨J, 2, none⟩ = some (.int .i64 (jX.half : Int)) ∧ u.cell? ⟨J, 3, none⟩ = some (.int .i64 (jX.head : Int))) := Lib.hid (fun u hb => by
          have hne := HJ2.out.neJ
          have h2 : IsJ u J B jX := (hb.block _ HJ2.out.lt.1 (by simp; omega)).trans HJ2.out.jn
          have h1 := h2.cells
          exact ⟨h1.1, h1.2.1, h1.2.2.1, h1.2.2.2.1⟩)
        have HK := Lib.hid ((Below.refl w2.heap.size w2).drew)
        go_upto_region 11 with fail
        go_region_held3 (fun w' => w'.cell? ⟨J, 0, none⟩ = some (.pointer (some ⟨B, 0, none⟩)) ∧ w'.cell? ⟨J, 1, none⟩ = some (.int .u64 (jX.gen : Int)) ∧ w'.cell? ⟨J, 2, none⟩ = some (.int .i64 (jX.half : Int)) ∧ w'.cell? ⟨J, 3, none⟩ = some (.int .i64 (jX.head : Int)))
          (first
            | go_keep
            | exact qq)
          (first
            | (go_at_call 49; (with_reducible refine (HHS.out _).mono ?_); rintro e w3 ⟨rfl, hb⟩; have HK := Lib.hid (HK.out.trans (hb.mono HK.out.size)); have qq := HCW.out _ HK.out; clear hb)
            | (go_at_call 40; (with_reducible refine (write_any (HJ2.out.below HK.out).dk _ _).mono ?_); rintro e w4 ⟨rfl, hd, ho⟩; have HD := Lib.hid hd; have HON3 := Lib.hid ((Below.onlyS (S := [B, bl, bm]) HK.out (Nat.le_refl _)).trans ho); have qq := HCX.out w4 HON3.out; clear hd ho))
        all_goals
          have hj4 := HJ2.out.disk HD.out HON3.out (Mt.write_len _ _ _)
          have HJ4 := Lib.hid hj4
          have HO4 := Lib.hid (HO2.out.trans (HON3.out.mono (T := [J, B, bl, bm]) (by intro x hx; simp at hx ⊢; omega)))
          have HFL := Lib.hid (flush_any hj4.dk)
          clear c0 c1 c2 c3 c4 c5 c6 qq
          obtain ⟨c0, c1, c2, c3, c4, c5, c6⟩ := hj4.jn.cells
          clear hj4 HD HON3
          rw [Mt.str_data] at *
          generalize hE2 : (dX.flush.1.write (jX.head : Int) (Mt.hdSector jX.gen jX.half)).2 = E2 at *
          have HE2 := Lib.hid hE2
          clear hE2
          by_cases he2 : E2 = 0
          · subst he2
            go_wp2_with fail
            refine (HFL.out).mono ?_
            rintro e w5 ⟨rfl, hd, ho⟩
            have hj5 := HJ4.out.disk hd ho (Mt.flush_len _ HJ4.out.dk.ok)
            have HJ5 := Lib.hid hj5
            have HO5 := Lib.hid (HO4.out.trans (ho.mono (T := [J, B, bl, bm]) (by intro x hx; simp at hx ⊢; omega)))
            clear hj5 hd ho
            go_wp2_with fail
            go_ret
            rw [HFJ.out, Mt.endJ_3 HE1.out HE2.out]
            exact ⟨rfl, HJ5.out, HO5.out⟩
          · have hd2 : (E2 == 0) = false := by simpa using he2
            have HX2 := Lib.hid (show Mt.endJ dX jX = _ from Mt.endJ_2 HE1.out (by rw [HE2.out]; exact he2))
            clear he2
            go_wp2_with fail
            go_ret
            rw [HFJ.out, HX2.out]
            exact ⟨Mt.ret_int HE2.out.symm, HJ4.out, HO4.out⟩
      · have hd2 : (E1 == 0) = false := by simpa using he
        have HX1 := Lib.hid (show Mt.endJ dX jX = _ from Mt.endJ_1 (by rw [HE1.out]; exact he))
        clear he
        go_wp2_with fail
        go_ret
        rw [HFJ.out, HX1.out]
        exact ⟨Mt.ret_int HE1.out.symm, HJ2.out, HO2.out⟩
end
end Go.Proofs.Ytmahkgkhnpffeaa
