/-
  Some texts of one proof, one behind the other.
-/
import Derived.BigRegion
import Derived.Test.YtnioagojiipjlaaGreatPk20
set_option linter.unusedVariables false
set_option linter.unusedSimpArgs false

/-
  What put comes to: a body's cells, one behind the other.
-/
namespace Go.Proofs.YtnioagojiipjlaaGreat
open Go.RowKit

theorem secsOf_length (g n : Nat) (b : List UInt8) : (Mt.secsOf g n b).length = Mt.cellsN b.length := by simp [Mt.secsOf]
theorem secsOf_get (g n : Nat) (b : List UInt8) (k : Nat) (h : k < (Mt.secsOf g n b).length) : (Mt.secsOf g n b)[k] = (Mt.cellAt g n b k).sector := by simp [Mt.secsOf]
section
variable {w u : World} {J B bl bm : Nat} {j : Mt.Jn} {d : Mt.Dk}
/-- Where put stands behind k parts. -/
structure PutAt (w wr : World) (J B bl bm : Nat) (j : Mt.Jn) (d : Mt.Dk) (b : List UInt8) (k : Nat) : Prop where
  jd : JD wr J B bl bm j (Mt.wrS d (j.first d.lasts.length + j.used) ((Mt.secsOf j.gen j.count b).take k)).1
  ok : (Mt.wrS d (j.first d.lasts.length + j.used) ((Mt.secsOf j.gen j.count b).take k)).2 = 0
  only : OnlyS [J, B, bl, bm] w wr
  box : ∃ x y, wr.heap[w.heap.size]? = some (.cells #[.int .u64 (j.gen : Int), .int .u64 (j.count : Int), x, .int .i64 (Mt.cellsN b.length : Int), y] 106 (0, 0))
theorem Mt.drop_part (b : List UInt8) (k n : Nat) (hn : n = min 110 (b.length - 110 * k)) :
    (Mt.str (b.drop (110 * k))).extract 0 n = Mt.str ((b.drop (110 * k)).take 110) ∧ (Mt.str (b.drop (110 * k))).extract n (Mt.str (b.drop (110 * k))).size = Mt.str (b.drop (110 * (k + 1))) := by
  have hl : (b.drop (110 * k)).length = b.length - 110 * k := List.length_drop
  constructor
  · have := Mt.ext_list (Mt.str (b.drop (110 * k))) 0 n
    rw [Nat.zero_add, Mt.str_data, List.drop_zero] at this
    rw [this]
    congr 1
    rw [hn]
    by_cases h : 110 ≤ b.length - 110 * k
    · rw [Nat.min_eq_left h]
    · rw [Nat.min_eq_right (by omega), List.take_of_length_le (by omega), List.take_of_length_le (by omega)]
  · have := Mt.extract_list (Mt.str (b.drop (110 * k))) n
    apply ByteArray.ext
    apply Array.ext'
    rw [this, Mt.str_data, Mt.str_data, List.drop_drop]
    by_cases h : 110 ≤ b.length - 110 * k
    · congr 1; omega
    · rw [List.drop_eq_nil_of_le (by omega), List.drop_eq_nil_of_le (by omega)]
theorem PutAt.start (h : JD w J B bl bm j d) (b : List UInt8) (P : Nat) (hP : Mt.cellsN b.length = P) : PutAt w ((w.alloc (.cells #[.int .u64 (j.gen : Int), .int .u64 (j.count : Int), .int .i64 0, .int .i64 (P : Int), .string ⟨#[]⟩] 106)).drew) J B bl bm j d b 0 := by
  have hb : Below w.heap.size w ((w.alloc (.cells #[.int .u64 (j.gen : Int), .int .u64 (j.count : Int), .int .i64 0, .int .i64 (P : Int), .string ⟨#[]⟩] 106)).drew) := ((Below.refl _ _).alloc (Nat.le_refl _) _).drew
  refine ⟨?_, rfl, Below.onlyS hb (Nat.le_refl _), .int .i64 0, .string ⟨#[]⟩, by rw [hP]; exact heap_alloc_new w _⟩
  exact h.below hb
theorem PutAt.part {wr : World} {b : List UInt8} {k P : Nat} (h : PutAt w wr J B bl bm j d b k) (hlt : J < w.heap.size ∧ B < w.heap.size ∧ bl < w.heap.size ∧ bm < w.heap.size) {x y : Value} (hb : wr.heap[w.heap.size]? = some (.cells #[.int .u64 (j.gen : Int), .int .u64 (j.count : Int), x, .int .i64 (P : Int), y] 106 (0, 0))) (Y : Value) :
    let wz := ((wr.setCell ⟨w.heap.size, 2, none⟩ (.int .i64 (k : Int))).setCell ⟨w.heap.size, 4, none⟩ Y).drew
    JD wz J B bl bm j (Mt.wrS d (j.first d.lasts.length + j.used) ((Mt.secsOf j.gen j.count b).take k)).1 ∧ OnlyS [J, B, bl, bm] w wz ∧ wz.heap[w.heap.size]? = some (.cells #[.int .u64 (j.gen : Int), .int .u64 (j.count : Int), .int .i64 (k : Int), .int .i64 (P : Int), Y] 106 (0, 0)) := by
  have hk : ∀ g, g < w.heap.size → (((wr.setCell ⟨w.heap.size, 2, none⟩ (.int .i64 (k : Int))).setCell ⟨w.heap.size, 4, none⟩ Y).drew).heap[g]? = wr.heap[g]? := fun g hg => by
    show ((wr.setCell ⟨w.heap.size, 2, none⟩ (.int .i64 (k : Int))).setCell ⟨w.heap.size, 4, none⟩ Y).heap[g]? = _
    have hne : g ≠ w.heap.size := by omega
    rw [heap_setCell_other _ _ _ _ hne, heap_setCell_other _ _ _ _ hne]
  refine ⟨h.jd.kept (hk _ hlt.1) (hk _ hlt.2.1) (hk _ hlt.2.2.1) (hk _ hlt.2.2.2), ?_, ?_⟩
  · have hb2 : Below w.heap.size wr (((wr.setCell ⟨w.heap.size, 2, none⟩ (.int .i64 (k : Int))).setCell ⟨w.heap.size, 4, none⟩ Y).drew) := (((Below.refl _ _).setCell (p := ⟨w.heap.size, 2, none⟩) (Nat.le_refl _) _).setCell (p := ⟨w.heap.size, 4, none⟩) (Nat.le_refl _) _).drew
    have ho := h.only
    exact ⟨hb2.os.trans ho.os, hb2.tape.trans ho.tape, hb2.output.trans ho.output, Nat.le_trans ho.size hb2.size, fun g hg hS => (hk g hg).trans (ho.block g hg hS)⟩
  · show ((wr.setCell ⟨w.heap.size, 2, none⟩ (.int .i64 (k : Int))).setCell ⟨w.heap.size, 4, none⟩ Y).heap[w.heap.size]? = _
    rw [heap_setCell_same _ _ _ _ _ _ (heap_setCell_same _ _ _ _ _ _ hb)]
    rfl
theorem PutAt.next {wr wz u : World} {b : List UInt8} {k P : Nat} {E : Int} (hP : Mt.cellsN b.length = P) (hk : k < P) (h0 : PutAt w wr J B bl bm j d b k)
    (hz : JD wz J B bl bm j (Mt.wrS d (j.first d.lasts.length + j.used) ((Mt.secsOf j.gen j.count b).take k)).1) (ho : OnlyS [J, B, bl, bm] w wz) (hlt : J < w.heap.size ∧ B < w.heap.size ∧ bl < w.heap.size ∧ bm < w.heap.size)
    (hb : wz.heap[w.heap.size]? = some (.cells #[.int .u64 (j.gen : Int), .int .u64 (j.count : Int), .int .i64 (k : Int), .int .i64 (P : Int), .string (Mt.str ((b.drop (110 * k)).take 110))] 106 (0, 0)))
    (i : Int) (hi : i = ((j.first d.lasts.length + j.used + k : Nat) : Int)) (hd : IsDisk u B bl bm ((Mt.wrS d (j.first d.lasts.length + j.used) ((Mt.secsOf j.gen j.count b).take k)).1.write i (Mt.cellAt j.gen j.count b k).sector).1) (hu : OnlyS [B, bl, bm] wz u)
    (hE : E = ((Mt.wrS d (j.first d.lasts.length + j.used) ((Mt.secsOf j.gen j.count b).take k)).1.write i (Mt.cellAt j.gen j.count b k).sector).2) :
    (E = 0 → PutAt w u J B bl bm j d b (k + 1)) ∧ (E ≠ 0 → (Mt.putJ d j b).2.2 = E ∧ JD u J B bl bm (Mt.putJ d j b).2.1 (Mt.putJ d j b).1 ∧ OnlyS [J, B, bl, bm] w u) := by
  have hl : k < (Mt.secsOf j.gen j.count b).length := by rw [secsOf_length, hP]; exact hk
  have hs := Mt.wrS_succ (Mt.secsOf j.gen j.count b) d (j.first d.lasts.length + j.used) k hl h0.ok
  rw [secsOf_get, ← hi] at hs
  rw [← hs] at hd hE
  have hjd := hz.disk hd hu (by rw [Mt.wrS_len, Mt.wrS_len])
  have hon := ho.trans (hu.mono (by intro x hx; simp at hx ⊢; omega))
  refine ⟨fun e => ⟨hjd, hE.symm.trans e, hon, .int .i64 (k : Int), .string (Mt.str ((b.drop (110 * k)).take 110)), ?_⟩, fun e => ?_⟩
  · rw [hP]
    exact (hu.block _ (lt_of_block hb) (by simp; omega)).trans hb
  · have hne : (Mt.wrS d (j.first d.lasts.length + j.used) ((Mt.secsOf j.gen j.count b).take (k + 1))).2 ≠ 0 := by rw [← hE]; exact e
    have hend := Mt.wrS_end _ _ _ _ hne
    have hp : Mt.putJ d j b = ((Mt.wrS d (j.first d.lasts.length + j.used) ((Mt.secsOf j.gen j.count b).take (k + 1))).1, j, (Mt.wrS d (j.first d.lasts.length + j.used) ((Mt.secsOf j.gen j.count b).take (k + 1))).2) := by
      unfold Mt.putJ
      rw [hend, if_neg hne]
    rw [hp]
    exact ⟨hE.symm, hjd, hon⟩
theorem PutAt.fin {wr : World} {b : List UInt8} {P : Nat} (hP : Mt.cellsN b.length = P) (h : PutAt w wr J B bl bm j d b P) (hu : j.used + P ≤ 8192) (hc : j.count + 1 ≤ 8192) (x y : Value) (hx : x = .int .i64 ((j.count + 1 : Nat) : Int)) (hy : y = .int .i64 ((j.used + P : Nat) : Int)) :
    (Mt.putJ d j b).2.2 = 0 ∧ JD (((wr.setCell ⟨J, 4, none⟩ x).setCell ⟨J, 5, none⟩ y).drew) J B bl bm (Mt.putJ d j b).2.1 (Mt.putJ d j b).1 ∧ OnlyS [J, B, bl, bm] w (((wr.setCell ⟨J, 4, none⟩ x).setCell ⟨J, 5, none⟩ y).drew) := by
  have ht : (Mt.secsOf j.gen j.count b).take P = Mt.secsOf j.gen j.count b := List.take_of_length_le (by rw [secsOf_length, hP]; exact Nat.le_refl _)
  have hok := h.ok
  have hjd := h.jd
  rw [ht] at hok hjd
  have hp : Mt.putJ d j b = ((Mt.wrS d (j.first d.lasts.length + j.used) (Mt.secsOf j.gen j.count b)).1, { j with count := j.count + 1, used := j.used + P }, 0) := by
    unfold Mt.putJ
    rw [if_pos hok, hP]
  rw [hp]
  subst hx hy
  refine ⟨rfl, ?_, ?_⟩
  · have h1 := hjd.jn.set 4 (.int .i64 ((j.count + 1 : Nat) : Int)) { j with count := j.count + 1 } rfl
    have h2 := h1.set 5 (.int .i64 ((j.used + P : Nat) : Int)) { j with count := j.count + 1, used := j.used + P } rfl
    exact hjd.put (u := ((wr.setCell ⟨J, 4, none⟩ _).setCell ⟨J, 5, none⟩ _).drew) h2 ((((OnlyS.refl _ _).setCell (by simp) _).setCell (by simp) _).drew) hjd.half hjd.head hjd.gen hu hc
  · exact ((h.only.setCell (by simp) _).setCell (by simp) _).drew
end
end Go.Proofs.YtnioagojiipjlaaGreat

/-
  What put comes to: the walk.
-/
namespace Go.Proofs.YtnioagojiipjlaaGreat
open Go.RowKit
section
variable {w u : World} {J B bl bm : Nat} {j : Mt.Jn} {d : Mt.Dk}
set_option maxRecDepth 100000 in
set_option maxHeartbeats 2000000 in
theorem put_any (h : JD w J B bl bm j d) (b : List UInt8) (hg : j.gen < 4294967296) (hb : b.length ≤ 1048576) (hu : j.used + Mt.cellsN b.length ≤ 8192) (hc : j.count + 1 ≤ 8192) :
    Calls Tryz.prog 56 #[.pointer (some ⟨J, 0, none⟩), .string (Mt.str b)] w fun e w' => e = .returned (.int .i64 (Mt.putJ d j b).2.2) ∧ JD w' J B bl bm (Mt.putJ d j b).2.1 (Mt.putJ d j b).1 ∧ OnlyS [J, B, bl, bm] w w' := by
  have hcell := h.jn.cells
  have HC := Lib.hid (fun u (hb : Below w.heap.size w u) => (h.below hb).jn.cells)
  have hsz : (Mt.str b).size = b.length := Mt.str_size b
  have HCE := Lib.hid (fun u => cells_any b.length u (by omega))
  have hP9 := Mt.cellsN_le b.length hb
  have v1 : IntKind.u64.wrap (j.count : Int) = (j.count : Int) := Mt.u64_nat _ (by omega)
  have H := Lib.hid h
  have HG := Lib.hid hg
  have HCO := Lib.hid hc
  have HBL := Lib.hid hb
  have HLT := Lib.hid h.lt
  obtain ⟨P, hP⟩ : ∃ P, Mt.cellsN b.length = P := ⟨_, rfl⟩
  have HP0 := Lib.hid (PutAt.start h b P hP)
  have HPE := Lib.hid hP
  rw [hP] at HCE hu hP9
  have HU := Lib.hid hu
  have HS0 := Lib.hid (show Mt.str b = Mt.str (b.drop (110 * 0)) by simp)
  have c1 := hcell.2.1
  have c4 := hcell.2.2.2.2.1
  clear h hg hu hc hb hcell hP
  generalize hSB : Mt.str b = SB at *
  obtain ⟨L, hL⟩ : ∃ L, b.length = L := ⟨_, rfl⟩
  rw [hL] at hsz HCE
  have HL := Lib.hid hL
  clear hL hSB
  have hszi : (SB.size : Int) = (L : Int) := by omega
  go_enter Tryz.func56, Tryz.ntmps56
  go_upto_region 1 with fail
  go_region_held3 (fun w' => w'.cell? ⟨J, 1, none⟩ = some (.int .u64 (j.gen : Int)) ∧ w'.cell? ⟨J, 4, none⟩ = some (.int .i64 (j.count : Int)))
    (first
      | go_keep
      | exact qq)
    (first
      | (go_at_call 55; (with_reducible refine (HCE.out _).mono ?_); rintro e w2 ⟨rfl, rfl⟩))
  all_goals
    clear c1 c4
    generalize (w.alloc (.cells #[.int .u64 (j.gen : Int), .int .u64 (j.count : Int), .int .i64 0, .int .i64 (P : Int), .string ⟨#[]⟩] 106)).drew = wa at *
    obtain ⟨x0, y0, hbox⟩ := HP0.out.box
    rw [HPE.out] at hbox
    obtain ⟨k0, k1, k2, k3, k4⟩ := box5_of hbox
    clear hbox
    go_wp2_with fail
    go_loopw [1, 6, 7, 8, 24] (fun body _ _ _ i wr => ∃ k : Nat, k ≤ P ∧ i = .int .i64 k ∧ body = .string (Mt.str (b.drop (110 * k))) ∧ Hid (PutAt w wr J B bl bm j d b k)) (fun _ _ _ _ i _ => P - (intOf i).toNat)
    case atStart => exact ⟨0, Nat.zero_le _, rfl, by rw [HS0.out], HP0⟩
    case round =>
      clear k0 k1 k2 k3 k4
      obtain ⟨k, hk, rfl, rfl, HPU⟩ := hrel
      by_cases hlt : k < P
      · obtain ⟨x, y, hbox⟩ := HPU.out.box
        rw [HPE.out] at hbox
        obtain ⟨k0, k1, k2, k3, k4⟩ := box5_of hbox
        have f2 : wr.frozen? ⟨w.heap.size, 2, none⟩ = false := frozen_of_row _ _ _ _ _ hbox
        have f4 : wr.frozen? ⟨w.heap.size, 4, none⟩ = false := frozen_of_row _ _ _ _ _ hbox
        have HBX := Lib.hid hbox
        clear hbox
        obtain ⟨n, hn⟩ : ∃ n, n = min 110 (b.length - 110 * k) := ⟨_, rfl⟩
        have hx := Mt.drop_part b k n hn
        have x1 := hx.1
        have x2 := hx.2
        have hs : (Mt.str (b.drop (110 * k))).size = b.length - 110 * k := by rw [Mt.str_size, List.length_drop]
        have m1 : (if ((Mt.str (b.drop (110 * k))).size : Int) < 110 then ((Mt.str (b.drop (110 * k))).size : Int) else 110) = (n : Int) := by rw [hs, hn]; split <;> omega
        have m2 : min (110 : Int) ((Mt.str (b.drop (110 * k))).size : Int) = (n : Int) := by rw [hs, hn]; omega
        have m3 : (n : Int) ≤ ((Mt.str (b.drop (110 * k))).size : Int) := by rw [hs, hn]; omega
        have m4 : n ≤ (Mt.str (b.drop (110 * k))).size := by rw [hs, hn]; omega
        have m5 : (Mt.str (b.drop (110 * k))).size ≤ 1048576 := by rw [hs]; have := HBL.out; omega
        clear hx hs hn
        generalize Mt.str (b.drop (110 * k)) = S at *
        generalize hS' : Mt.str (b.drop (110 * (k + 1))) = S' at *
        have HS' := Lib.hid hS'
        clear hS'
        generalize hY : Mt.str ((b.drop (110 * k)).take 110) = Y at *
        have HY := Lib.hid hY
        clear hY
        go_wp2_with fail
        go_region
        obtain ⟨hjz, hoz, hbz⟩ := HPU.out.part HLT.out HBX.out (.string Y)
        generalize (((wr.setCell ⟨w.heap.size, 2, none⟩ (.int .i64 (k : Int))).setCell ⟨w.heap.size, 4, none⟩ (.string Y)).drew) = wz at *
        clear k0 k1 k2 k3 k4 f2 f4 m1 m2 m3 m4 m5 x1 x2
        have HJZ := Lib.hid hjz
        have HOZ := Lib.hid hoz
        have HBZ := Lib.hid hbz
        obtain ⟨F, hF⟩ : ∃ F, j.first d.lasts.length = F := ⟨_, rfl⟩
        obtain ⟨U, hU⟩ : ∃ U, j.used = U := ⟨_, rfl⟩
        have hFl : F ≤ 4097 := by
          rw [← hF]
          unfold Mt.Jn.first
          have h1 := hsize_le H.out
          have h2 := H.out.half
          have h3 : j.half = 0 ∨ j.half = 1 := by omega
          rcases h3 with e | e <;> rw [e] <;> omega
        have hUl : U ≤ 8192 := by have := HU.out; omega
        have v2 : IntKind.i64.wrap ((F : Int) + (U : Int)) = (F : Int) + (U : Int) := IntWalk.i64_in _ (by omega)
        have v3 : IntKind.i64.wrap ((F : Int) + (U : Int) + (k : Int)) = (F : Int) + (U : Int) + (k : Int) := IntWalk.i64_in _ (by omega)
        have HI := Lib.hid (show (F : Int) + (U : Int) + (k : Int) = ((j.first d.lasts.length + j.used + k : Nat) : Int) by rw [hF, hU]; simp)
        have HCZ : Hid (∀ u, Below wz.heap.size wz u → u.cell? ⟨J, 0, none⟩ = some (.pointer (some ⟨B, 0, none⟩)) ∧ u.cell? ⟨J, 5, none⟩ = some (.int .i64 (U : Int)) ∧ u.cell? ⟨w.heap.size, 0, none⟩ = some (.int .u64 (j.gen : Int)) ∧ u.cell? ⟨w.heap.size, 1, none⟩ = some (.int .u64 (j.count : Int)) ∧ u.cell? ⟨w.heap.size, 2, none⟩ = some (.int .i64 (k : Int)) ∧ u.cell? ⟨w.heap.size, 3, none⟩ = some (.int .i64 (P : Int)) ∧ u.cell? ⟨w.heap.size, 4, none⟩ = some (.string Y)) := Lib.hid (fun u hb => by
          have h1 := (HJZ.out.below hb).jn.cells
          rw [hU] at h1
          exact ⟨h1.1, h1.2.2.2.2.2.1, box5_of ((hb.block _ (lt_of_block HBZ.out)).trans HBZ.out)⟩)
        have HFI : Hid (∀ u, Below wz.heap.size wz u → Calls Tryz.prog 59 #[.pointer (some ⟨J, 0, none⟩)] u fun e w' => e = .returned (.int .i64 (F : Int)) ∧ Below u.heap.size u w') := Lib.hid (fun u hb => by
          have h1 := first_any (HJZ.out.below hb)
          rw [Mt.wrS_len, hF] at h1
          exact h1)
        have HSE : Hid (∀ u, Calls Tryz.prog 79 #[.agg #[.int .u64 (j.gen : Int), .int .u64 (j.count : Int), .int .i64 (k : Int), .int .i64 (P : Int), .string Y]] u fun e w' => e = .returned (.string (Mt.str (Mt.cellAt j.gen j.count b k).sector)) ∧ Below u.heap.size u w') := Lib.hid (fun u => by
          have h1 := csector_any (Mt.cellAt j.gen j.count b k) ⟨HG.out, by show j.count < 4294967296; have := HCO.out; omega, by show k < 65536; omega, by show Mt.cellsN b.length < 65536; rw [HPE.out]; omega, by show ((b.drop (110 * k)).take 110).length ≤ 110; rw [List.length_take]; omega⟩ u
          have hcl : clV (Mt.cellAt j.gen j.count b k) = #[.int .u64 (j.gen : Int), .int .u64 (j.count : Int), .int .i64 (k : Int), .int .i64 (P : Int), .string Y] := by
            unfold clV Mt.cellAt
            simp only
            rw [HPE.out, HY.out]
          rw [hcl] at h1
          exact h1)
        have HCW : Hid (∀ u, OnlyS [B, bl, bm] wz u → u.cell? ⟨J, 0, none⟩ = some (.pointer (some ⟨B, 0, none⟩)) ∧ u.cell? ⟨J, 5, none⟩ = some (.int .i64 (U : Int)) ∧ u.cell? ⟨w.heap.size, 0, none⟩ = some (.int .u64 (j.gen : Int)) ∧ u.cell? ⟨w.heap.size, 1, none⟩ = some (.int .u64 (j.count : Int)) ∧ u.cell? ⟨w.heap.size, 2, none⟩ = some (.int .i64 (k : Int)) ∧ u.cell? ⟨w.heap.size, 3, none⟩ = some (.int .i64 (P : Int)) ∧ u.cell? ⟨w.heap.size, 4, none⟩ = some (.string Y)) := Lib.hid (fun u hb => by
          have hne := HJZ.out.neJ
          have hlt2 := HLT.out
          have h1 : IsJ u J B j := (hb.block _ HJZ.out.lt.1 (by simp; omega)).trans HJZ.out.jn
          have h2 := h1.cells
          rw [hU] at h2
          exact ⟨h2.1, h2.2.2.2.2.2.1, box5_of ((hb.block _ (lt_of_block HBZ.out) (by simp; omega)).trans HBZ.out)⟩)
        have qq := HCZ.out _ (Below.refl _ _)
        obtain ⟨q1, q2, q3, q4, q5, q6, q7⟩ := qq
        have HK := Lib.hid ((Below.refl wz.heap.size wz).drew)
        clear hjz hoz hbz hF hU hFl hUl
        go_upto_region 7 with fail
        go_region_held3 (fun w' => w'.cell? ⟨J, 0, none⟩ = some (.pointer (some ⟨B, 0, none⟩)) ∧ w'.cell? ⟨J, 5, none⟩ = some (.int .i64 (U : Int)) ∧ w'.cell? ⟨w.heap.size, 0, none⟩ = some (.int .u64 (j.gen : Int)) ∧ w'.cell? ⟨w.heap.size, 1, none⟩ = some (.int .u64 (j.count : Int)) ∧ w'.cell? ⟨w.heap.size, 2, none⟩ = some (.int .i64 (k : Int)) ∧ w'.cell? ⟨w.heap.size, 3, none⟩ = some (.int .i64 (P : Int)) ∧ w'.cell? ⟨w.heap.size, 4, none⟩ = some (.string Y))
          (first
            | go_keep
            | exact qq)
          (first
            | (go_at_call 59; (with_reducible refine (HFI.out _ HK.out).mono ?_); rintro e w2 ⟨rfl, hb⟩; have HK := Lib.hid (HK.out.trans (hb.mono HK.out.size)); have qq := HCZ.out _ HK.out; clear hb)
            | (go_at_call 79; (with_reducible refine (HSE.out _).mono ?_); rintro e w2 ⟨rfl, hb⟩; have HK := Lib.hid (HK.out.trans (hb.mono HK.out.size)); have qq := HCZ.out _ HK.out; clear hb)
            | (go_at_call 78; (with_reducible refine (write_any (HJZ.out.below HK.out).dk _ _).mono ?_); rintro e w4 ⟨rfl, hd, ho⟩; have HD := Lib.hid hd; have HON := Lib.hid ((Below.onlyS (S := [B, bl, bm]) HK.out (Nat.le_refl _)).trans ho); have qq := HCW.out w4 HON.out; clear hd ho))
        have HNX := Lib.hid (fun E hE => PutAt.next (E := E) HPE.out hlt HPU.out HJZ.out HOZ.out HLT.out (by rw [HY.out]; exact HBZ.out) _ HI.out HD.out HON.out hE)
        obtain ⟨E, hE⟩ : ∃ E, E = ((Mt.wrS d (j.first d.lasts.length + j.used) (List.take k (Mt.secsOf j.gen j.count b))).fst.write ((F : Int) + (U : Int) + (k : Int)) (Mt.str (Mt.cellAt j.gen j.count b k).sector).data.toList).snd := ⟨_, rfl⟩
        have HN2 := Lib.hid (HNX.out E hE)
        rw [← hE]
        clear hE HNX HD HON
        by_cases he : E = 0
        · have HN3 := Lib.hid (HN2.out.1 he)
          subst he
          clear HN2
          go_wp2_with fail
          go_roundw
          case rel => exact ⟨k + 1, by omega, by go_num, by rw [HS'.out], HN3⟩
          case measure => simp [intOf]; omega
        · have HN3 := Lib.hid (HN2.out.2 he)
          have hd : (E == 0) = false := by simpa using he
          clear HN2 he
          go_wp2_with fail
          go_ret
          exact ⟨Mt.ret_int HN3.out.1.symm, HN3.out.2.1, HN3.out.2.2⟩
      · obtain rfl : k = P := by omega
        obtain ⟨x, y, hbox⟩ := HPU.out.box
        rw [HPE.out] at hbox
        obtain ⟨k0, k1, k2, k3, k4⟩ := box5_of hbox
        obtain ⟨q0, q1, q2, q3, q4, q5, q6⟩ := HPU.out.jd.jn.cells
        have f4 := HPU.out.jd.jn.frozen 4
        have f5 := HPU.out.jd.jn.frozen 5
        have hne : w.heap.size ≠ J := by have := HLT.out; omega
        have k3' : ∀ v, (wr.setCell ⟨J, 4, none⟩ v).cell? ⟨w.heap.size, 3, none⟩ = some (.int .i64 (k : Int)) := fun v => (box5_of ((heap_setCell_other _ _ _ _ hne).trans hbox)).2.2.2.1
        have j5' : ∀ v, (wr.setCell ⟨J, 4, none⟩ v).cell? ⟨J, 5, none⟩ = some (.int .i64 (j.used : Int)) := fun v => by
          have := HPU.out.jd.jn
          unfold IsJ at this
          simp [World.cell?, heap_setCell_same _ _ _ _ _ _ this, jnV]
        have HFN := Lib.hid (fun x y hx hy => HPU.out.fin HPE.out HU.out HCO.out x y hx hy)
        have hc8 := HCO.out
        have hu8 := HU.out
        clear hbox hne
        generalize j.count = cn at *
        generalize j.used = us at *
        go_upto_region 12 with fail
        go_region
        go_wp2_with fail
        go_ret
        have HF := HFN.out (.int .i64 ((cn : Int) + 1)) (.int .i64 ((us : Int) + (k : Int))) (by simp) (by simp)
        exact ⟨Mt.ret_int HF.1.symm, HF.2.1, HF.2.2⟩
end
end Go.Proofs.YtnioagojiipjlaaGreat

/-
  What fill comes to: bodies, one behind the other, and then the head.
-/
namespace Go.Proofs.YtnioagojiipjlaaGreat
open Go.RowKit

theorem Mt.putJ_keeps (d : Mt.Dk) (j : Mt.Jn) (b : List UInt8) : (Mt.putJ d j b).2.1.gen = j.gen ∧ (Mt.putJ d j b).2.1.half = j.half ∧ (Mt.putJ d j b).2.1.head = j.head ∧ (Mt.putJ d j b).2.1.closed = j.closed ∧ (Mt.putJ d j b).1.lasts.length = d.lasts.length := by
  unfold Mt.putJ
  split <;> exact ⟨rfl, rfl, rfl, rfl, Mt.wrS_len _ _ _⟩
theorem Mt.putJ_ok {d : Mt.Dk} {j : Mt.Jn} {b : List UInt8} (h : (Mt.putJ d j b).2.2 = 0) : (Mt.putJ d j b).2.1.count = j.count + 1 ∧ (Mt.putJ d j b).2.1.used = j.used + Mt.cellsN b.length := by
  unfold Mt.putJ at h ⊢
  split at h
  · rename_i hx; rw [if_pos hx]; exact ⟨rfl, rfl⟩
  · rename_i hx; exact absurd h hx
theorem Mt.putJ_bad {d : Mt.Dk} {j : Mt.Jn} {b : List UInt8} (h : (Mt.putJ d j b).2.2 ≠ 0) : (Mt.putJ d j b).2.1 = j := by
  unfold Mt.putJ at h ⊢
  split at h
  · exact absurd rfl h
  · rename_i hx; rw [if_neg hx]
theorem Mt.putsJ_keeps : ∀ (bs : List (List UInt8)) (d : Mt.Dk) (j : Mt.Jn), (Mt.putsJ d j bs).2.1.gen = j.gen ∧ (Mt.putsJ d j bs).2.1.half = j.half ∧ (Mt.putsJ d j bs).2.1.head = j.head ∧ (Mt.putsJ d j bs).2.1.closed = j.closed ∧ (Mt.putsJ d j bs).1.lasts.length = d.lasts.length
  | [], _, _ => ⟨rfl, rfl, rfl, rfl, rfl⟩
  | b :: r, d, j => by
    have h1 := Mt.putJ_keeps d j b
    unfold Mt.putsJ
    split
    · have h2 := Mt.putsJ_keeps r (Mt.putJ d j b).1 (Mt.putJ d j b).2.1
      exact ⟨h2.1.trans h1.1, h2.2.1.trans h1.2.1, h2.2.2.1.trans h1.2.2.1, h2.2.2.2.1.trans h1.2.2.2.1, h2.2.2.2.2.trans h1.2.2.2.2⟩
    · exact h1
theorem Mt.putsJ_ok : ∀ (bs : List (List UInt8)) (d : Mt.Dk) (j : Mt.Jn), (Mt.putsJ d j bs).2.2 = 0 → (Mt.putsJ d j bs).2.1.count = j.count + bs.length ∧ (Mt.putsJ d j bs).2.1.used = j.used + Mt.needs bs
  | [], _, _, _ => ⟨rfl, rfl⟩
  | b :: r, d, j, h => by
    unfold Mt.putsJ at h ⊢
    split at h
    · rename_i hx
      have h1 := Mt.putJ_ok hx
      have h2 := Mt.putsJ_ok r _ _ h
      rw [if_pos hx, h2.1, h2.2, h1.1, h1.2]
      exact ⟨by simp; omega, by simp only [Mt.needs]; omega⟩
    · rename_i hx; exact absurd h hx
theorem Mt.putsJ_snoc : ∀ (bs : List (List UInt8)) (b : List UInt8) (d : Mt.Dk) (j : Mt.Jn), (Mt.putsJ d j bs).2.2 = 0 → Mt.putsJ d j (bs ++ [b]) = Mt.putJ (Mt.putsJ d j bs).1 (Mt.putsJ d j bs).2.1 b
  | [], b, d, j, _ => by
    simp only [List.nil_append, Mt.putsJ]
    split
    · rename_i h; rw [← h]
    · rfl
  | x :: r, b, d, j, h => by
    simp only [List.cons_append, Mt.putsJ] at h ⊢
    split at h
    · rename_i hx; rw [if_pos hx, if_pos hx, Mt.putsJ_snoc r b _ _ h]
    · rename_i hx; exact absurd h hx
theorem Mt.putsJ_stop : ∀ (bs m : List (List UInt8)) (d : Mt.Dk) (j : Mt.Jn), (Mt.putsJ d j bs).2.2 ≠ 0 → Mt.putsJ d j (bs ++ m) = Mt.putsJ d j bs
  | [], m, d, j, h => absurd rfl h
  | x :: r, m, d, j, h => by
    simp only [List.cons_append, Mt.putsJ] at h ⊢
    split at h
    · rename_i hx; rw [if_pos hx, if_pos hx, Mt.putsJ_stop r m _ _ h]
    · rename_i hx; rw [if_neg hx, if_neg hx]
theorem Mt.putsJ_succ (bs : List (List UInt8)) (d : Mt.Dk) (j : Mt.Jn) (k : Nat) (hk : k < bs.length) (h : (Mt.putsJ d j (bs.take k)).2.2 = 0) : Mt.putsJ d j (bs.take (k + 1)) = Mt.putJ (Mt.putsJ d j (bs.take k)).1 (Mt.putsJ d j (bs.take k)).2.1 bs[k] := by
  rw [List.take_succ_eq_append_getElem hk, Mt.putsJ_snoc _ _ _ _ h]
theorem Mt.putsJ_end (bs : List (List UInt8)) (d : Mt.Dk) (j : Mt.Jn) (k : Nat) (h : (Mt.putsJ d j (bs.take k)).2.2 ≠ 0) : Mt.putsJ d j bs = Mt.putsJ d j (bs.take k) := by
  have e := Mt.putsJ_stop (bs.take k) (bs.drop k) d j h
  rwa [List.take_append_drop] at e
theorem Mt.needs_len : ∀ bs : List (List UInt8), bs.length ≤ Mt.needs bs
  | [] => Nat.le_refl _
  | b :: r => by
    have := Mt.needs_len r
    simp only [List.length_cons, Mt.needs, Mt.cellsN]
    omega
theorem Mt.needs_take (bs : List (List UInt8)) (k : Nat) : Mt.needs (bs.take k) ≤ Mt.needs bs := by
  have := Mt.needs_append (bs.take k) (bs.drop k)
  rw [List.take_append_drop] at this
  omega

section
variable {w u : World} {J B bl bm : Nat} {j : Mt.Jn} {d : Mt.Dk}
/-- Where a text lies, neither journal nor disk lies. -/
theorem JD.noStr (h : JD w J B bl bm j d) {b o : Nat} {s : ByteArray} (hc : w.cell? ⟨b, o, none⟩ = some (.string s)) : b ∉ [J, B, bl, bm] := by
  intro hm
  simp only [List.mem_cons, List.not_mem_nil, or_false] at hm
  rcases hm with rfl | rfl | rfl | rfl
  · have h1 := h.jn
    unfold IsJ jnV at h1
    simp [World.cell?, h1] at hc
    match o, hc with
    | 0, hc | 1, hc | 2, hc | 3, hc | 4, hc | 5, hc | 6, hc => simp at hc
    | o + 7, hc => simp at hc
  · have h1 := h.dk.row
    unfold dkCells at h1
    simp [World.cell?, h1] at hc
    match o, hc with
    | 0, hc | 1, hc | 2, hc | 3, hc | 4, hc | 5, hc | 6, hc | 7, hc => simp at hc
    | o + 8, hc => simp at hc
  · have h1 := h.dk.secs
    simp [World.cell?, h1, flat] at hc
    have := (Mt.cs_getD _ _ _ hc).2
    cases this
  · obtain ⟨D, ⟨es, clock, h1, _⟩, _⟩ := h.dk.waits
    simp [World.cell?, h1] at hc
theorem IsTs.only (h : JD w J B bl bm j d) {v : Value} {ls : List (List UInt8)} (ht : IsTs w v ls) (ho : OnlyS [J, B, bl, bm] w u) : IsTs u v ls := by
  obtain ⟨a, cap, h1, h2, h4⟩ := ht
  refine ⟨a, cap, h1, h2, ?_⟩
  rcases h4 with h4 | ⟨b, off, h5, h6, h7⟩
  · exact .inl h4
  · refine .inr ⟨b, off, h5, Nat.lt_of_lt_of_le h6 ho.size, fun i hi => ?_⟩
    rw [ho.cell (p := ⟨b, off + i, none⟩) h6 (h.noStr (h7 i hi))]
    exact h7 i hi
/-- Where fill stands behind k bodies. -/
structure FillAt (w wr : World) (J B bl bm : Nat) (j : Mt.Jn) (d : Mt.Dk) (bs : List (List UInt8)) (k : Nat) : Prop where
  jd : JD wr J B bl bm (Mt.putsJ d j (bs.take k)).2.1 (Mt.putsJ d j (bs.take k)).1
  ok : (Mt.putsJ d j (bs.take k)).2.2 = 0
  only : OnlyS [J, B, bl, bm] w wr
theorem FillAt.next {wr : World} {bs : List (List UInt8)} {k : Nat} (h : FillAt w wr J B bl bm j d bs k) (hk : k < bs.length) {E : Int} (hE : E = (Mt.putJ (Mt.putsJ d j (bs.take k)).1 (Mt.putsJ d j (bs.take k)).2.1 bs[k]).2.2)
    (hd : JD u J B bl bm (Mt.putJ (Mt.putsJ d j (bs.take k)).1 (Mt.putsJ d j (bs.take k)).2.1 bs[k]).2.1 (Mt.putJ (Mt.putsJ d j (bs.take k)).1 (Mt.putsJ d j (bs.take k)).2.1 bs[k]).1) (ho : OnlyS [J, B, bl, bm] wr u) :
    (E = 0 → FillAt w u J B bl bm j d bs (k + 1)) ∧ (E ≠ 0 → (Mt.fillJ d j bs).2.2 = E ∧ JD u J B bl bm (Mt.fillJ d j bs).2.1 (Mt.fillJ d j bs).1 ∧ OnlyS [J, B, bl, bm] w u) := by
  have hs := Mt.putsJ_succ bs d j k hk h.ok
  rw [← hs] at hE hd
  refine ⟨fun e => ⟨hd, hE.symm.trans e, h.only.trans ho⟩, fun e => ?_⟩
  have hne : (Mt.putsJ d j (bs.take (k + 1))).2.2 ≠ 0 := by rw [← hE]; exact e
  have he := Mt.putsJ_end _ _ _ _ hne
  have hf : Mt.fillJ d j bs = Mt.putsJ d j (bs.take (k + 1)) := by
    unfold Mt.fillJ
    rw [he, if_neg hne]
  rw [hf]
  exact ⟨hE.symm, hd, h.only.trans ho⟩
end
end Go.Proofs.YtnioagojiipjlaaGreat
