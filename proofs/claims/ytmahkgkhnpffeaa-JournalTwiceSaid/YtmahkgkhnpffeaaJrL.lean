/-
  What put comes to: the walk.
-/
import Derived.Test.YtmahkgkhnpffeaaJrLa
namespace Go.Proofs.Ytmahkgkhnpffeaa
open Go.RowKit
section
variable {w u : World} {J B bl bm : Nat} {j : Mt.Jn} {d : Mt.Dk}
set_option maxRecDepth 100000 in
set_option maxHeartbeats 2000000 in
theorem put_any (h : JD w J B bl bm j d) (b : List UInt8) (hg : j.gen < 4294967296) (hb : b.length ≤ 1048576) (hu : j.used + Mt.cellsN b.length ≤ 8192) (hc : j.count + 1 ≤ 8192) :
    Calls Try.prog 25 #[.pointer (some ⟨J, 0, none⟩), .string (Mt.str b)] w fun e w' => e = .returned (.int .i64 (Mt.putJ d j b).2.2) ∧ JD w' J B bl bm (Mt.putJ d j b).2.1 (Mt.putJ d j b).1 ∧ OnlyS [J, B, bl, bm] w w' := by
  have hcell := h.jn.cells
  have HC := Lib.hid (fun u (hb : Below w.heap.size w u) => (h.below hb).jn.cells)
  have hsz : (Mt.str b).size = b.length := Mt.str_size b
  have HCE := Lib.hid (fun u => cells_any b.length u (by omega))
  have hP9 := Mt.cellsN_le b.length hb
  have v1 : IntKind.u64.wrap (j.count : Int) = (j.count : Int) := Mt.u64_nat _ (by omega)
  have H := Lib.hid h
  have HG := Lib.hid hg
  have HCO := Lib.hid hc
  have HBL := Lib.hid hb
  have HLT := Lib.hid h.lt
  obtain ⟨P, hP⟩ : ∃ P, Mt.cellsN b.length = P := ⟨_, rfl⟩
  have HP0 := Lib.hid (PutAt.start h b P hP)
  have HPE := Lib.hid hP
  rw [hP] at HCE hu hP9
  have HU := Lib.hid hu
  have HS0 := Lib.hid (show Mt.str b = Mt.str (b.drop (110 * 0)) by simp)
  have c1 := hcell.2.1
  have c4 := hcell.2.2.2.2.1
  clear h hg hu hc hb hcell hP
  generalize hSB : Mt.str b = SB at *
  obtain ⟨L, hL⟩ : ∃ L, b.length = L := ⟨_, rfl⟩
  rw [hL] at hsz HCE
  have HL := Lib.hid hL
  clear hL hSB
  have hszi : (SB.size : Int) = (L : Int) := by omega
  go_enter Try.func25, Try.ntmps25
  go_upto_region 1 with fail
  go_region_held3 (fun w' => w'.cell? ⟨J, 1, none⟩ = some (.int .u64 (j.gen : Int)) ∧ w'.cell? ⟨J, 4, none⟩ = some (.int .i64 (j.count : Int)))
    (first
      | go_keep
      | exact qq)
    (first
      | (go_at_call 19; (with_reducible refine (HCE.out _).mono ?_); rintro e w2 ⟨rfl, rfl⟩))
  all_goals
    clear c1 c4
    generalize (w.alloc (.cells #[.int .u64 (j.gen : Int), .int .u64 (j.count : Int), .int .i64 0, .int .i64 (P : Int), .string ⟨#[]⟩] 65)).drew = wa at *
    obtain ⟨x0, y0, hbox⟩ := HP0.out.box
    rw [HPE.out] at hbox
    obtain ⟨k0, k1, k2, k3, k4⟩ := box5_of hbox
    clear hbox
    go_wp2_with fail
    go_loopw [1, 6, 7, 8, 24] (fun body _ _ _ i wr => ∃ k : Nat, k ≤ P ∧ i = .int .i64 k ∧ body = .string (Mt.str (b.drop (110 * k))) ∧ Hid (PutAt w wr J B bl bm j d b k)) (fun _ _ _ _ i _ => P - (intOf i).toNat)
    case atStart => exact ⟨0, Nat.zero_le _, rfl, by rw [HS0.out], HP0⟩
    case round =>
      clear k0 k1 k2 k3 k4
      obtain ⟨k, hk, rfl, rfl, HPU⟩ := hrel
      by_cases hlt : k < P
      · obtain ⟨x, y, hbox⟩ := HPU.out.box
        rw [HPE.out] at hbox
        obtain ⟨k0, k1, k2, k3, k4⟩ := box5_of hbox
        have f2 : wr.frozen? ⟨w.heap.size, 2, none⟩ = false := frozen_of_row _ _ _ _ _ hbox
        have f4 : wr.frozen? ⟨w.heap.size, 4, none⟩ = false := frozen_of_row _ _ _ _ _ hbox
        have HBX := Lib.hid hbox
        clear hbox
        obtain ⟨n, hn⟩ : ∃ n, n = min 110 (b.length - 110 * k) := ⟨_, rfl⟩
        have hx := Mt.drop_part b k n hn
        have x1 := hx.1
        have x2 := hx.2
        have hs : (Mt.str (b.drop (110 * k))).size = b.length - 110 * k := by rw [Mt.str_size, List.length_drop]
        have m1 : (if ((Mt.str (b.drop (110 * k))).size : Int) < 110 then ((Mt.str (b.drop (110 * k))).size : Int) else 110) = (n : Int) := by rw [hs, hn]; split <;> omega
        have m2 : min (110 : Int) ((Mt.str (b.drop (110 * k))).size : Int) = (n : Int) := by rw [hs, hn]; omega
        have m3 : (n : Int) ≤ ((Mt.str (b.drop (110 * k))).size : Int) := by rw [hs, hn]; omega
        have m4 : n ≤ (Mt.str (b.drop (110 * k))).size := by rw [hs, hn]; omega
        have m5 : (Mt.str (b.drop (110 * k))).size ≤ 1048576 := by rw [hs]; have := HBL.out; omega
        clear hx hs hn
        generalize Mt.str (b.drop (110 * k)) = S at *
        generalize hS' : Mt.str (b.drop (110 * (k + 1))) = S' at *
        have HS' := Lib.hid hS'
        clear hS'
        generalize hY : Mt.str ((b.drop (110 * k)).take 110) = Y at *
        have HY := Lib.hid hY
        clear hY
        go_wp2_with fail
        go_region
        obtain ⟨hjz, hoz, hbz⟩ := HPU.out.part HLT.out HBX.out (.string Y)
        generalize (((wr.setCell ⟨w.heap.size, 2, none⟩ (.int .i64 (k : Int))).setCell ⟨w.heap.size, 4, none⟩ (.string Y)).drew) = wz at *
        clear k0 k1 k2 k3 k4 f2 f4 m1 m2 m3 m4 m5 x1 x2
        have HJZ := Lib.hid hjz
        have HOZ := Lib.hid hoz
        have HBZ := Lib.hid hbz
        obtain ⟨F, hF⟩ : ∃ F, j.first d.lasts.length = F := ⟨_, rfl⟩
        obtain ⟨U, hU⟩ : ∃ U, j.used = U := ⟨_, rfl⟩
        have hFl : F ≤ 4097 := by
          rw [← hF]
          unfold Mt.Jn.first
          have h1 := hsize_le H.out
          have h2 := H.out.half
          have h3 : j.half = 0 ∨ j.half = 1 := by omega
          rcases h3 with e | e <;> rw [e] <;> omega
        have hUl : U ≤ 8192 := by have := HU.out; omega
        have v2 : IntKind.i64.wrap ((F : Int) + (U : Int)) = (F : Int) + (U : Int) := IntWalk.i64_in _ (by omega)
        have v3 : IntKind.i64.wrap ((F : Int) + (U : Int) + (k : Int)) = (F : Int) + (U : Int) + (k : Int) := IntWalk.i64_in _ (by omega)
        have HI := Lib.hid (show (F : Int) + (U : Int) + (k : Int) = ((j.first d.lasts.length + j.used + k : Nat) : Int) by rw [hF, hU]; simp)
        have HCZ : Hid (∀ u, Below wz.heap.size wz u → u.cell? ⟨J, 0, none⟩ = some (.pointer (some ⟨B, 0, none⟩)) ∧ u.cell? ⟨J, 5, none⟩ = some (.int .i64 (U : Int)) ∧ u.cell? ⟨w.heap.size, 0, none⟩ = some (.int .u64 (j.gen : Int)) ∧ u.cell? ⟨w.heap.size, 1, none⟩ = some (.int .u64 (j.count : Int)) ∧ u.cell? ⟨w.heap.size, 2, none⟩ = some (.int .i64 (k : Int)) ∧ u.cell? ⟨w.heap.size, 3, none⟩ = some (.int .i64 (P : Int)) ∧ u.cell? ⟨w.heap.size, 4, none⟩ = some (.string Y)) := Lib.hid (fun u hb => by
          have h1 := (HJZ.out.below hb).jn.cells
          rw [hU] at h1
          exact ⟨h1.1, h1.2.2.2.2.2.1, box5_of ((hb.block _ (lt_of_block HBZ.out)).trans HBZ.out)⟩)
        have HFI : Hid (∀ u, Below wz.heap.size wz u → Calls Try.prog 28 #[.pointer (some ⟨J, 0, none⟩)] u fun e w' => e = .returned (.int .i64 (F : Int)) ∧ Below u.heap.size u w') := Lib.hid (fun u hb => by
          have h1 := first_any (HJZ.out.below hb)
          rw [Mt.wrS_len, hF] at h1
          exact h1)
        have HSE : Hid (∀ u, Calls Try.prog 41 #[.agg #[.int .u64 (j.gen : Int), .int .u64 (j.count : Int), .int .i64 (k : Int), .int .i64 (P : Int), .string Y]] u fun e w' => e = .returned (.string (Mt.str (Mt.cellAt j.gen j.count b k).sector)) ∧ Below u.heap.size u w') := Lib.hid (fun u => by
          have h1 := csector_any (Mt.cellAt j.gen j.count b k) ⟨HG.out, by show j.count < 4294967296; have := HCO.out; omega, by show k < 65536; omega, by show Mt.cellsN b.length < 65536; rw [HPE.out]; omega, by show ((b.drop (110 * k)).take 110).length ≤ 110; rw [List.length_take]; omega⟩ u
          have hcl : clV (Mt.cellAt j.gen j.count b k) = #[.int .u64 (j.gen : Int), .int .u64 (j.count : Int), .int .i64 (k : Int), .int .i64 (P : Int), .string Y] := by
            unfold clV Mt.cellAt
            simp only
            rw [HPE.out, HY.out]
          rw [hcl] at h1
          exact h1)
        have HCW : Hid (∀ u, OnlyS [B, bl, bm] wz u → u.cell? ⟨J, 0, none⟩ = some (.pointer (some ⟨B, 0, none⟩)) ∧ u.cell? ⟨J, 5, none⟩ = some (.int .i64 (U : Int)) ∧ u.cell? ⟨w.heap.size, 0, none⟩ = some (.int .u64 (j.gen : Int)) ∧ u.cell? ⟨w.heap.size, 1, none⟩ = some (.int .u64 (j.count : Int)) ∧ u.cell? ⟨w.heap.size, 2, none⟩ = some (.int .i64 (k : Int)) ∧ u.cell? ⟨w.heap.size, 3, none⟩ = some (.int .i64 (P : Int)) ∧ u.cell? ⟨w.heap.size, 4, none⟩ = some (.string Y)) := Lib.hid (fun u hb => by
          have hne := HJZ.out.neJ
          have hlt2 := HLT.out
          have h1 : IsJ u J B j := (hb.block _ HJZ.out.lt.1 (by simp; omega)).trans HJZ.out.jn
          have h2 := h1.cells
          rw [hU] at h2
          exact ⟨h2.1, h2.2.2.2.2.2.1, box5_of ((hb.block _ (lt_of_block HBZ.out) (by simp; omega)).trans HBZ.out)⟩)
        have qq := HCZ.out _ (Below.refl _ _)
        obtain ⟨q1, q2, q3, q4, q5, q6, q7⟩ := qq
        have HK := Lib.hid ((Below.refl wz.heap.size wz).drew)
        clear hjz hoz hbz hF hU hFl hUl
        go_upto_region 7 with fail
        go_region_held3 (fun w' => w'.cell? ⟨J, 0, none⟩ = some (.pointer (some ⟨B, 0, none⟩)) ∧ w'.cell? ⟨J, 5, none⟩ = some (.int .i64 (U : Int)) ∧ w'.cell? ⟨w.heap.size, 0, none⟩ = some (.int .u64 (j.gen : Int)) ∧ w'.cell? ⟨w.heap.size, 1, none⟩ = some (.int .u64 (j.count : Int)) ∧ w'.cell? ⟨w.heap.size, 2, none⟩ = some (.int .i64 (k : Int)) ∧ w'.cell? ⟨w.heap.size, 3, none⟩ = some (.int .i64 (P : Int)) ∧ w'.cell? ⟨w.heap.size, 4, none⟩ = some (.string Y))
          (first
            | go_keep
            | exact qq)
          (first
            | (go_at_call 28; (with_reducible refine (HFI.out _ HK.out).mono ?_); rintro e w2 ⟨rfl, hb⟩; have HK := Lib.hid (HK.out.trans (hb.mono HK.out.size)); have qq := HCZ.out _ HK.out; clear hb)
            | (go_at_call 41; (with_reducible refine (HSE.out _).mono ?_); rintro e w2 ⟨rfl, hb⟩; have HK := Lib.hid (HK.out.trans (hb.mono HK.out.size)); have qq := HCZ.out _ HK.out; clear hb)
            | (go_at_call 40; (with_reducible refine (write_any (HJZ.out.below HK.out).dk _ _).mono ?_); rintro e w4 ⟨rfl, hd, ho⟩; have HD := Lib.hid hd; have HON := Lib.hid ((Below.onlyS (S := [B, bl, bm]) HK.out (Nat.le_refl _)).trans ho); have qq := HCW.out w4 HON.out; clear hd ho))
        have HNX := Lib.hid (fun E hE => PutAt.next (E := E) HPE.out hlt HPU.out HJZ.out HOZ.out HLT.out (by rw [HY.out]; exact HBZ.out) _ HI.out HD.out HON.out hE)
        obtain ⟨E, hE⟩ : ∃ E, E = ((Mt.wrS d (j.first d.lasts.length + j.used) (List.take k (Mt.secsOf j.gen j.count b))).fst.write ((F : Int) + (U : Int) + (k : Int)) (Mt.str (Mt.cellAt j.gen j.count b k).sector).data.toList).snd := ⟨_, rfl⟩
        have HN2 := Lib.hid (HNX.out E hE)
        rw [← hE]
        clear hE HNX HD HON
        by_cases he : E = 0
        · have HN3 := Lib.hid (HN2.out.1 he)
          subst he
          clear HN2
          go_wp2_with fail
          go_roundw
          case rel => exact ⟨k + 1, by omega, by go_num, by rw [HS'.out], HN3⟩
          case measure => simp [intOf]; omega
        · have HN3 := Lib.hid (HN2.out.2 he)
          have hd : (E == 0) = false := by simpa using he
          clear HN2 he
          go_wp2_with fail
          go_ret
          exact ⟨Mt.ret_int HN3.out.1.symm, HN3.out.2.1, HN3.out.2.2⟩
      · obtain rfl : k = P := by omega
        obtain ⟨x, y, hbox⟩ := HPU.out.box
        rw [HPE.out] at hbox
        obtain ⟨k0, k1, k2, k3, k4⟩ := box5_of hbox
        obtain ⟨q0, q1, q2, q3, q4, q5, q6⟩ := HPU.out.jd.jn.cells
        have f4 := HPU.out.jd.jn.frozen 4
        have f5 := HPU.out.jd.jn.frozen 5
        have hne : w.heap.size ≠ J := by have := HLT.out; omega
        have k3' : ∀ v, (wr.setCell ⟨J, 4, none⟩ v).cell? ⟨w.heap.size, 3, none⟩ = some (.int .i64 (k : Int)) := fun v => (box5_of ((heap_setCell_other _ _ _ _ hne).trans hbox)).2.2.2.1
        have j5' : ∀ v, (wr.setCell ⟨J, 4, none⟩ v).cell? ⟨J, 5, none⟩ = some (.int .i64 (j.used : Int)) := fun v => by
          have := HPU.out.jd.jn
          unfold IsJ at this
          simp [World.cell?, heap_setCell_same _ _ _ _ _ _ this, jnV]
        have HFN := Lib.hid (fun x y hx hy => HPU.out.fin HPE.out HU.out HCO.out x y hx hy)
        have hc8 := HCO.out
        have hu8 := HU.out
        clear hbox hne
        generalize j.count = cn at *
        generalize j.used = us at *
        go_upto_region 12 with fail
        go_region
        go_wp2_with fail
        go_ret
        have HF := HFN.out (.int .i64 ((cn : Int) + 1)) (.int .i64 ((us : Int) + (k : Int))) (by simp) (by simp)
        exact ⟨Mt.ret_int HF.1.symm, HF.2.1, HF.2.2⟩
end
end Go.Proofs.Ytmahkgkhnpffeaa
