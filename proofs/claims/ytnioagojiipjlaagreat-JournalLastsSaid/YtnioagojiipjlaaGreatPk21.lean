/-
  Some texts of one proof, one behind the other.
-/
import Derived.Deep.RegionLaw
import Derived.Test.YtnioagojiipjlaaGreatPk17
set_option linter.unusedVariables false
set_option linter.unusedSimpArgs false

/-
  What New of the document's disk comes to.
-/
namespace Go.Proofs.YtnioagojiipjlaaGreat
open Go.RowKit Go.Maps

/-- The new disk, while its rows grow. -/
structure Nw (w : World) (R a b : Nat) (vL vW : Value) : Prop where
  row : w.heap[R]? = some (.cells #[vL, vW, .bool false, .int .i64 0, .bool false, .int .i64 0, .int .u64 0, .int .i64 0, .int .i64 0, .slice none 0 0] 67 (0, 0))
  l : w.ownsRow (R + 1) 9 1 vL a (List.replicate a (.string (Mt.str Mt.blank)))
  v : w.ownsRow (R + 1) 9 1 vW b (List.replicate b (.string ByteArray.empty))
  ne : vL.ownBlock = none ∨ vL.ownBlock ≠ vW.ownBlock
  nl : a = 0 → vL = .slice none 0 0
  nw : b = 0 → vW = .slice none 0 0
section
variable {x y : World} {R a b : Nat} {vL vW : Value}
theorem Nw.lt (h : Nw x R a b vL vW) : R < x.heap.size := lt_of_block h.row
theorem Nw.below (h : Nw x R a b vL vW) (hb : Below x.heap.size x y) : Nw y R a b vL vW :=
  ⟨by rw [hb.block _ h.lt]; exact h.row, own_at h.l fun k _ hk => hb.block k hk, own_at h.v fun k _ hk => hb.block k hk, h.ne, h.nl, h.nw⟩
theorem Nw.drew (h : Nw x R a b vL vW) : Nw x.drew R a b vL vW := ⟨h.row, h.l, h.v, h.ne, h.nl, h.nw⟩
theorem Nw.alloc (h : Nw x R a b vL vW) (o : Obj) : Nw (x.alloc o) R a b vL vW := h.below ((Below.refl _ _).alloc (Nat.le_refl _) o)
theorem Nw.c0 (h : Nw x R a b vL vW) : x.cell? ⟨R, 0, none⟩ = some vL := by rw [cell_of_row _ _ _ _ _ _ h.row]; rfl
theorem Nw.c1 (h : Nw x R a b vL vW) : x.cell? ⟨R, 1, none⟩ = some vW := by rw [cell_of_row _ _ _ _ _ _ h.row]; rfl
theorem Nw.f (h : Nw x R a b vL vW) (i : Nat) : x.frozen? ⟨R, i, none⟩ = false := frozen_of_row _ _ _ _ _ h.row
theorem own_kept {w u : World} {base : Nat} {e : TypeId} {size : Nat} {v : Value} {n : Nat} {xs : List Value} (h : w.ownsRow base e size v n xs) (hk : ∀ k, v.ownBlock = some k → u.heap[k]? = w.heap[k]?) : u.ownsRow base e size v n xs := by
  refine ⟨h.1, ?_⟩
  rcases h.2 with h | ⟨g, cap, cur, h1, h2, h3, h4⟩
  · exact .inl h
  · exact .inr ⟨g, cap, cur, h1, h2, by rw [hk g (by rw [h1]; rfl)]; exact h3, h4⟩
theorem Nw.stepL (h : Nw x R a b vL vW) (hg : x.grownBy y vL.ownBlock) (gg cap : Nat) (hown : y.ownsRow (R + 1) 9 1 (.slice (some ⟨gg, 0, none⟩) (a + 1) cap) (a + 1) (List.replicate a (.string (Mt.str Mt.blank)) ++ [.string (Mt.str Mt.blank)])) (hat : vL.ownBlock = some gg ∨ gg = x.heap.size) :
    y.cell? ⟨R, 0, none⟩ = some vL ∧ y.frozen? ⟨R, 0, none⟩ = false ∧ Nw (y.setCell ⟨R, 0, none⟩ (.slice (some ⟨gg, 0, none⟩) (a + 1) cap)) R (a + 1) b (.slice (some ⟨gg, 0, none⟩) (a + 1) cap) vW := by
  have hr : y.heap[R]? = x.heap[R]? := hg.block R h.lt (fun e => by have := (h.l.lt R e.symm).1; omega)
  rw [h.row] at hr
  have hs := heap_setCell_same y R 0 _ _ (.slice (some ⟨gg, 0, none⟩) (a + 1) cap) hr
  have ho : ∀ k, k ≠ R → (y.setCell ⟨R, 0, none⟩ (.slice (some ⟨gg, 0, none⟩) (a + 1) cap)).heap[k]? = y.heap[k]? := fun k hk => heap_setCell_other _ _ _ _ hk
  refine ⟨by rw [cell_of_row _ _ _ _ _ _ hr]; rfl, frozen_of_row _ _ _ _ _ hr, hs, ?_, ?_, ?_, (fun e => by cases e), h.nw⟩
  · rw [List.replicate_succ']
    exact own_at hown fun k h1 _ => ho k (by omega)
  · refine own_kept h.v fun k hk => ?_
    have hk2 := h.v.lt k hk
    rw [ho k (by omega)]
    refine hg.block k hk2.2 (fun e => ?_)
    rcases h.ne with h0 | h0
    · rw [h0] at e; cases e
    · exact h0 (by rw [hk, ← e])
  · right
    intro e
    have e2 : vW.ownBlock = some gg := e.symm
    rcases hat with h0 | h0
    · rcases h.ne with h1 | h1
      · rw [h1] at h0; cases h0
      · exact h1 (by rw [h0, e2])
    · have := (h.v.lt gg e2).2; omega
theorem Nw.stepW (h : Nw x R a b vL vW) (hg : x.grownBy y vW.ownBlock) (gg cap : Nat) (hown : y.ownsRow (R + 1) 9 1 (.slice (some ⟨gg, 0, none⟩) (b + 1) cap) (b + 1) (List.replicate b (.string ByteArray.empty) ++ [.string ByteArray.empty])) (hat : vW.ownBlock = some gg ∨ gg = x.heap.size) :
    y.cell? ⟨R, 1, none⟩ = some vW ∧ y.frozen? ⟨R, 1, none⟩ = false ∧ Nw (y.setCell ⟨R, 1, none⟩ (.slice (some ⟨gg, 0, none⟩) (b + 1) cap)) R a (b + 1) vL (.slice (some ⟨gg, 0, none⟩) (b + 1) cap) := by
  have hr : y.heap[R]? = x.heap[R]? := hg.block R h.lt (fun e => by have := (h.v.lt R e.symm).1; omega)
  rw [h.row] at hr
  have hs := heap_setCell_same y R 1 _ _ (.slice (some ⟨gg, 0, none⟩) (b + 1) cap) hr
  have ho : ∀ k, k ≠ R → (y.setCell ⟨R, 1, none⟩ (.slice (some ⟨gg, 0, none⟩) (b + 1) cap)).heap[k]? = y.heap[k]? := fun k hk => heap_setCell_other _ _ _ _ hk
  refine ⟨by rw [cell_of_row _ _ _ _ _ _ hr]; rfl, frozen_of_row _ _ _ _ _ hr, hs, ?_, ?_, ?_, h.nl, (fun e => by cases e)⟩
  · refine own_kept h.l fun k hk => ?_
    have hk2 := h.l.lt k hk
    rw [ho k (by omega)]
    refine hg.block k hk2.2 (fun e => ?_)
    rcases h.ne with h0 | h0
    · rw [h0] at hk; cases hk
    · exact h0 (by rw [hk, ← e])
  · rw [List.replicate_succ']
    exact own_at hown fun k h1 _ => ho k (by omega)
  · rcases h.ne with h1 | h1
    · exact .inl h1
    · right
      intro e
      have e2 : vL.ownBlock = some gg := e
      rcases hat with h0 | h0
      · exact h1 (by rw [h0, e2])
      · have := (h.l.lt gg e2).2; omega
theorem txts_own {w : World} {base g k cap : Nat} {s : ByteArray} {f : Nat → ByteArray} (h : w.ownsRow base 9 1 (.slice (some ⟨g, 0, none⟩) k cap) k (List.replicate k (.string s))) (hf : ∀ i, i < k → f i = s) : txts w g k f := by
  rcases h.2 with h | ⟨g', cap', cur, h1, h2, h3, h4, h5, h6, h7⟩
  · cases h.1
  · injection h1 with h1 _ _
    injection h1 with h1
    injection h1 with h1
    subst h1
    refine ⟨cur, h3, fun i hi => ?_⟩
    rw [hf i hi]
    have e : (cur.toList.take (k * 1))[i]? = some (.string s) := by rw [h7]; simp [hi]
    rw [List.getElem?_take, if_pos (by omega)] at e
    simpa using e
theorem Nw.rd (h : Nw x R a a vL vW) (ha : a ≤ 8192) : ∃ g : Rg, g.R = R ∧ R ≤ g.bl ∧ R ≤ g.bw ∧ (g.bl < g.D ∧ g.bw < g.D ∧ g.P = (fun _ => False) ∧ g.D = x.heap.size) ∧ IsR x g 0 (Mt.Dk.new a) := by
  have hl : (Mt.Dk.new a).lasts.length = a := by simp [Mt.Dk.new]
  rcases Nat.eq_zero_or_pos a with h0 | h0
  · subst h0
    obtain rfl := h.nl rfl
    obtain rfl := h.nw rfl
    exact ⟨⟨R, R, R, x.heap.size, 0, 0, fun _ => False⟩, rfl, Nat.le_refl _, Nat.le_refl _, ⟨h.lt, h.lt, rfl, rfl⟩, false, 0, .slice none 0 0, 0, [], ⟨Mt.Dk.ok_new 0 ha, h.row, fun h => absurd hl h, fun h => absurd hl h, World.ownsRow_nil _ _ _ _, h.lt, fun h => absurd hl h, Nat.le_refl _, rfl, by decide, (fun k e => by cases e), fun k hk => hk.elim⟩, Nat.le_refl _, rfl⟩
  · obtain ⟨gl, cl, rfl⟩ := own_form h.l h0
    obtain ⟨gw, cw, rfl⟩ := own_form h.v h0
    have l1 := h.l.lt gl rfl
    have l2 := h.v.lt gw rfl
    have hne : gl ≠ gw := by
      rcases h.ne with e | e
      · cases e
      · intro h; subst h; exact e rfl
    refine ⟨⟨R, gl, gw, x.heap.size, cl, cw, fun _ => False⟩, rfl, by show R ≤ gl; omega, by show R ≤ gw; omega, ⟨l1.2, l2.2, rfl, rfl⟩, false, 0, .slice none 0 0, 0, [], ⟨Mt.Dk.ok_new a ha, ?_, fun _ => ?_, fun _ => ?_, World.ownsRow_nil _ _ _ _, h.lt, fun _ => ⟨l1.2, l2.2, hne, by show gl ≠ R; omega, by show gw ≠ R; omega⟩, Nat.le_refl _, ?_, by decide, (fun k e => by cases e), fun k hk => hk.elim⟩, Nat.le_refl _, rfl⟩
    · rw [h.row]
      unfold rCells
      rw [hl, slc_pos (by omega), slc_pos (by omega)]
      rfl
    · rw [hl]
      refine txts_own h.l fun i hi => ?_
      unfold lastT
      simp [Mt.Dk.new, hi]
    · rw [hl]
      refine txts_own h.v fun i hi => ?_
      unfold waitT
      simp [Mt.Dk.new, Mt.noWaits, wtxt, hi]
    · rw [hl]; rfl
end

set_option maxHeartbeats 1000000 in
set_option maxRecDepth 100000 in
theorem enew_any (n : Int) (w : World) : Calls Tryz.prog 7 #[.int .i64 n] w fun e w' => ∃ g : Rg, e = .returned (.pointer (some ⟨g.R, 0, none⟩)) ∧ w.heap.size ≤ g.R ∧ w.heap.size ≤ g.bl ∧ w.heap.size ≤ g.bw ∧ (g.bl < g.D ∧ g.bw < g.D ∧ g.P = (fun _ => False) ∧ g.D = w'.heap.size) ∧ IsR w' g 0 (Mt.Dk.new (min n.toNat 8192)) ∧ Below w.heap.size w w' := by
  obtain ⟨i0, hi, hz0, hz1, hz2⟩ := info_parts Tryz.infoStr
  obtain ⟨m, hm⟩ : ∃ m, min n.toNat 8192 = m := ⟨_, rfl⟩
  have HM := Lib.hid hm
  have hm8 : m ≤ 8192 := by omega
  rw [hm]
  clear hm
  obtain ⟨R, hR⟩ : ∃ R, w.heap.size = R := ⟨_, rfl⟩
  have HR := Lib.hid hR
  clear hR
  go_enter Tryz.func7, Tryz.ntmps7
  go_wp2_with fail
  have HB0 := Lib.hid ((Below.refl w.heap.size w).alloc (Nat.le_refl _) (.cells #[.slice none 0 0, .slice none 0 0, .bool false, .int .i64 0, .bool false, .int .i64 0, .int .u64 0, .int .i64 0, .int .i64 0, .slice none 0 0] 67))
  have HN0 : Hid (Nw (w.alloc (.cells #[.slice none 0 0, .slice none 0 0, .bool false, .int .i64 0, .bool false, .int .i64 0, .int .u64 0, .int .i64 0, .int .i64 0, .slice none 0 0] 67)) w.heap.size 0 0 (.slice none 0 0) (.slice none 0 0)) := Lib.hid ⟨heap_alloc_new _ _, World.ownsRow_nil _ _ _ _, World.ownsRow_nil _ _ _ _, .inl rfl, fun _ => rfl, fun _ => rfl⟩
  generalize (w.alloc (.cells #[.slice none 0 0, .slice none 0 0, .bool false, .int .i64 0, .bool false, .int .i64 0, .int .u64 0, .int .i64 0, .int .i64 0, .slice none 0 0] 67)) = w1 at *
  rw [HR.out] at HN0 ⊢
  go_loopw [4] (fun i wr => ∃ (k : Nat) (vL vW : Value), k ≤ m ∧ i = .int .i64 k ∧ Hid (Nw wr R k k vL vW) ∧ Hid (Below w.heap.size w wr))
    (fun i _ => m - (intOf i).toNat)
  case atStart => exact ⟨0, _, _, by omega, rfl, HN0, HB0⟩
  case round =>
    clear HN0 HB0
    obtain ⟨k, vL, vW, hk, rfl, HNW, HB⟩ := hrel
    by_cases hkm : k < m
    · have h1 : (k : Int) < n := by have := HM.out; omega
      have h2 : (k : Int) < 8192 := by omega
      have HBL := Lib.hid (fun u => blank_any 128 (by decide) u)
      have c0 := HNW.out.c0
      have HLT := Lib.hid HNW.out.lt
      obtain ⟨Z, hZ⟩ : ∃ Z, Mt.str (List.replicate 128 0) = Z := ⟨_, rfl⟩
      have HZ : Hid (Z = Mt.str Mt.blank) := Lib.hid hZ.symm
      rw [hZ] at HBL
      clear hZ
      go_upto_region 5 with fail
      go_region_law (first
        | (go_simp; refine (HBL.out _).mono ?_; rintro e w2 ⟨rfl, hb⟩; have HN2 := Lib.hid (HNW.out.drew.below hb); have HB2 := Lib.hid (HB.out.drew.trans (hb.mono HB.out.size)); have c0 := HN2.out.c0; have hlt2 := HN2.out.lt; clear hb)
        | (refine step_append_lies _ (by rfl) _ _ _ (by rfl) (R + 1) 9 i0 _ 1 16 Tryz.underlying30 hi hz0 hz1 hz2 rfl (by decide) vL k _ (by rfl) ((HN2.out.alloc _)).l ⟨w2.heap.size, 0, none⟩ 1 1 [.string Z] (by rfl) (by rfl) (World.news_of_block (cs := #[.string Z]) (t := 9) (fr := (0, 0)) (heap_alloc_new w2 _)) (by simp [Value.oneCell']) (by decide) (by unfold maxLen; omega) (by omega) (by have := HN2.out.lt; simp; omega) (w2.heap.size + 1) (by simp) ?_; intro gg cap w4 hown4 hgr4 hat4 hlt4; have HN4 := Lib.hid ((HN2.out.alloc _).stepL hgr4 gg cap (by have h := hown4; rw [HZ.out] at h; exact h) (by simpa using hat4)); have HB4 := Lib.hid ((HB2.out.alloc (by have := HB2.out.size; omega) _).grown hgr4 (by have := HB2.out.size; simp; omega) (fun j hj => by have := (HN2.out.l.lt j hj).1; have := HR.out; omega)); have c0' := HN4.out.1; have f0' := HN4.out.2.1))
      all_goals
        have HN5 := Lib.hid HN4.out.2.2
        have HB5 := Lib.hid (Below.setCell HB4.out (p := ⟨R, 0, none⟩) (by rw [HR.out]; exact Nat.le_refl _) (.slice (some ⟨gg, 0, none⟩) (k + 1) cap))
        clear c0' f0' hown4 hgr4 hat4 hlt4 HN4 HB4 HN2 HB2 c0 hlt2
        generalize (w4.setCell ⟨R, 0, none⟩ (.slice (some ⟨gg, 0, none⟩) (k + 1) cap)) = u at *
        have c1 := HN5.out.c1
        have hlt5 := HN5.out.lt
        go_wp2_with (at_builtin; go_must (refine wpList_append_lies _ rfl _ _ _ rfl (R + 1) 9 i0 _ 1 16 Tryz.underlying30 hi hz0 hz1 hz2 rfl (by decide) vW k _ rfl (HN5.out.alloc _).v ⟨u.heap.size, 0, none⟩ 1 1 [.string ByteArray.empty] rfl rfl (World.news_of_block (cs := #[.string ByteArray.empty]) (t := 9) (fr := (0, 0)) (heap_alloc_new u _)) (by simp [Value.oneCell']) (by decide) (by unfold maxLen; omega) (by omega) (by have := HN5.out.lt; simp; omega) (u.heap.size + 1) (by simp) ?_); intro gg6 cap6 w6 hown6 hgr6 hat6 hlt6; have HN6 := Lib.hid ((HN5.out.alloc _).stepW hgr6 gg6 cap6 hown6 (by simpa using hat6)); have HB6 := Lib.hid ((HB5.out.alloc (by have := HB5.out.size; omega) _).grown hgr6 (by have := HB5.out.size; simp; omega) (fun j hj => by have := (HN5.out.v.lt j hj).1; have := HR.out; omega)); have c1' := HN6.out.1; have f1' := HN6.out.2.1)
        have HN7 := Lib.hid HN6.out.2.2
        have HB7 := Lib.hid (Below.setCell HB6.out (p := ⟨R, 1, none⟩) (by rw [HR.out]; exact Nat.le_refl _) (.slice (some ⟨gg6, 0, none⟩) (k + 1) cap6))
        go_roundw
        case rel => exact ⟨k + 1, _, _, by omega, by go_num, HN7, HB7⟩
        case measure => simp [intOf]; omega
    · obtain rfl : k = m := by omega
      obtain ⟨g, h1, h2, h3, h5, h4⟩ := HNW.out.rd hm8
      have HFIN : Hid (g.R = R ∧ w.heap.size ≤ g.R ∧ w.heap.size ≤ g.bl ∧ w.heap.size ≤ g.bw ∧ (g.bl < g.D ∧ g.bw < g.D ∧ g.P = (fun _ => False) ∧ g.D = wr.heap.size) ∧ IsR wr g 0 (Mt.Dk.new k)) := Lib.hid ⟨h1, by have := HR.out; omega, by have := HR.out; omega, by have := HR.out; omega, h5, h4⟩
      clear h1 h2 h3 h4 h5
      by_cases hn : n ≤ k
      · have hn' : decide ((k : Int) < n) = false := decide_eq_false (by omega)
        go_wp2_with fail
        go_ret
        refine ⟨g, ?_, HFIN.out.2.1, HFIN.out.2.2.1, HFIN.out.2.2.2.1, HFIN.out.2.2.2.2.1, HFIN.out.2.2.2.2.2, HB.out⟩
        rw [HFIN.out.1]; rfl
      · have hk8 : k = 8192 := by have := HM.out; omega
        have HK8 := Lib.hid hk8
        have hn' : (k : Int) < n := by omega
        have hn2 : decide ((k : Int) < 8192) = false := decide_eq_false (by omega)
        clear hk8
        go_wp2_with fail
        go_ret
        refine ⟨g, ?_, HFIN.out.2.1, HFIN.out.2.2.1, HFIN.out.2.2.2.1, HFIN.out.2.2.2.2.1, HFIN.out.2.2.2.2.2, HB.out⟩
        rw [HFIN.out.1]; rfl
end Go.Proofs.YtnioagojiipjlaaGreat

/-
  The program's disk and the document's, side by side: one act of both.
-/
namespace Go.Proofs.YtnioagojiipjlaaGreat
open Go.RowKit Go.Maps

theorem Mt.calm_on (d : Mt.Dk) : Mt.Calm d.on := fun h => by cases h
theorem Mt.calm_crash (d : Mt.Dk) (k : Nat) (a b : Int) : Mt.Calm (d.crash k a b) := fun h => by cases h
theorem Mt.calm_limit {d : Mt.Dk} (h : Mt.Calm d) (n : Int) : Mt.Calm (d.limit n) := h
theorem Mt.calm_cut {d : Mt.Dk} (h : Mt.Calm d) (n k : Nat) (a b : Int) : Mt.Calm (d.cutAt n k a b) := h
theorem Mt.calm_lay (d : Mt.Dk) (s : List UInt8) : Mt.Calm (d.lay s) := fun _ => by
  unfold Mt.Dk.lay
  show Mt.noWaits _ = Mt.noWaits (Mt.layL _ _).length
  rw [Mt.layL_length]
theorem Mt.calm_new (n : Nat) : Mt.Calm (Mt.Dk.new n) := fun h => by cases h
theorem Mt.calm_count {d : Mt.Dk} (h : Mt.Calm d) : Mt.Calm d.count.1 := by
  unfold Mt.Dk.count
  split
  · exact h
  · split
    · intro _
      show Mt.noWaits d.lasts.length = Mt.noWaits (Mt.loseAll _ _ _ _ _).length
      unfold Mt.loseAll
      rw [Mt.loseK_length]
    · exact h
theorem Mt.calm_flush {d : Mt.Dk} (h : Mt.Calm d) (ho : d.Ok) : Mt.Calm d.flush.1 := by
  unfold Mt.Dk.flush
  split
  · exact h
  · split
    · intro _
      show Mt.noWaits d.count.1.lasts.length = Mt.noWaits (Mt.over _ _).length
      rw [Mt.over_length _ _ ho.count.len]
    · exact Mt.calm_count h
theorem Mt.calm_write {d : Mt.Dk} (h : Mt.Calm d) (i : Int) (s : List UInt8) : Mt.Calm (d.write i s).1 := by
  unfold Mt.Dk.write
  split
  · rename_i ha
    have hoff := (Mt.ask_yes ha).1
    split
    · split
      · refine Mt.calm_count ?_
        intro hx
        have : d.off = true := hx
        rw [hoff] at this; cases this
      · exact h
    · exact h
  · exact h

structure Both (base : Nat) (w : World) (B bl bm : Nat) (g : Rg) (t : Nat) (d : Mt.Dk) : Prop where
  one : IsDisk w B bl bm d
  two : IsR w g t d
  calm : Mt.Calm d
  lt : B < g.D ∧ bl < g.D ∧ bm < g.D
  ap : ∀ x ∈ [B, bl, bm], x ≠ g.R ∧ x ≠ g.bl ∧ x ≠ g.bw
  up : base ≤ B ∧ base ≤ bl ∧ base ≤ bm ∧ base ≤ g.R ∧ base ≤ g.bl ∧ base ≤ g.bw ∧ base ≤ g.D
  pr : g.P = (fun _ => False)
  lo : g.bl < g.D ∧ g.bw < g.D

section
variable {base : Nat} {w u x : World} {B bl bm : Nat} {g : Rg} {t : Nat} {d d' : Mt.Dk}
theorem Both.size (h : Both base w B bl bm g t d) : base ≤ w.heap.size := Nat.le_trans h.up.2.2.2.2.2.2 h.two.size
theorem Both.below (h : Both base w B bl bm g t d) (hb : Below w.heap.size w u) : Both base u B bl bm g t d := ⟨h.one.below hb, h.two.below hb, h.calm, h.lt, h.ap, h.up, h.pr, h.lo⟩
theorem Both.alloc (h : Both base w B bl bm g t d) (o : Obj) : Both base (w.alloc o) B bl bm g t d := h.below ((Below.refl _ _).alloc (Nat.le_refl _) o)
theorem Both.drew (h : Both base w B bl bm g t d) : Both base w.drew B bl bm g t d := h.below (Below.refl _ _).drew
theorem Both.mono (h : Both base w B bl bm g t d) {t' : Nat} (ht : t ≤ t') : Both base w B bl bm g t' d := ⟨h.one, h.two.mono ht, h.calm, h.lt, h.ap, h.up, h.pr, h.lo⟩
theorem IsR.only (h : IsR w g t d) (ho : OnlyS [B, bl, bm] w u) (h1 : B < g.D ∧ bl < g.D ∧ bm < g.D) (h2 : ∀ x ∈ [B, bl, bm], x ≠ g.R ∧ x ≠ g.bl ∧ x ≠ g.bw) : IsR u g t d := by
  obtain ⟨a, b, c, e, f, h, ht⟩ := h
  refine ⟨a, b, c, e, f, h.kept ho.size fun k hk hh => ho.block k hk fun hm => ?_, ht⟩
  obtain ⟨p, q, r⟩ := h2 k hm
  rcases hh with rfl | ⟨_, rfl | rfl⟩ | hD
  · exact p rfl
  · exact q rfl
  · exact r rfl
  · simp only [List.mem_cons, List.not_mem_nil, or_false] at hm
    rcases hm with rfl | rfl | rfl <;> omega
theorem IsDisk.fr (h : IsDisk w B bl bm d) (hf : Fr g w u) (h1 : B < g.D ∧ bl < g.D ∧ bm < g.D) (h2 : ∀ x ∈ [B, bl, bm], x ≠ g.R ∧ x ≠ g.bl ∧ x ≠ g.bw) : IsDisk u B bl bm d := by
  have a := h2 B (by simp)
  have b := h2 bl (by simp)
  have c := h2 bm (by simp)
  exact h.kept (hf.block _ (.inl h1.1) h.ltB a.1 a.2.1 a.2.2) (hf.block _ (.inl h1.2.1) h.ltL b.1 b.2.1 b.2.2) (hf.block _ (.inl h1.2.2) h.ltM c.1 c.2.1 c.2.2)
theorem Fr.toBelow (hf : Fr g w u) (hs : g.D ≤ w.heap.size) (h1 : base ≤ g.R) (h2 : base ≤ g.bl) (h3 : base ≤ g.bw) (h4 : base ≤ g.D) : Below base w u :=
  ⟨hf.os, hf.tape, hf.output, hf.size, fun k hk => hf.block k (.inl (by omega)) (by omega) (by omega) (by omega) (by omega)⟩
/-- Behind a call of the program's disk. -/
theorem Both.first (h : Both base w B bl bm g t d) (ho : OnlyS [B, bl, bm] w u) : IsR u g t d ∧ Below base w u :=
  ⟨h.two.only ho h.lt h.ap, ho.toBelow (fun k hk => by
    have := h.up
    simp only [List.mem_cons, List.not_mem_nil, or_false] at hk
    rcases hk with rfl | rfl | rfl <;> omega) h.size⟩
/-- Behind a call of the document's disk. -/
theorem Both.second (h : Both base w B bl bm g t d) (hs : g.D ≤ u.heap.size) (h1 : IsDisk u B bl bm d') (hf : Fr g u x) (h2 : IsR x g (t + 1) d') (hc : Mt.Calm d') : Both base x B bl bm g (t + 1) d' ∧ Below base u x :=
  ⟨⟨h1.fr hf h.lt h.ap, h2, hc, h.lt, h.ap, h.up, h.pr, h.lo⟩, hf.toBelow hs h.up.2.2.2.1 h.up.2.2.2.2.1 h.up.2.2.2.2.2.1 h.up.2.2.2.2.2.2⟩

/-- An act as a value. -/
def actV (D I N : Int) (S : ByteArray) (K : Nat) (T A : Int) : Value := .agg #[.int .i64 D, .int .i64 I, .int .i64 N, .string S, .int .u64 (K : Int), .int .i64 T, .int .i64 A]
def DoPost (base : Nat) (w : World) (B bl bm : Nat) (g : Rg) (t : Nat) (e : Ending) (w' : World) : Prop := e = .returned (.bool true) ∧ (∃ d', Both base w' B bl bm g (t + 1) d') ∧ Below base w w'

theorem act_kept (h : Both base w B bl bm g t d) (o : Obj) : ∀ u, OnlyS [B, bl, bm] (w.alloc o) u → u.heap[w.heap.size]? = some o := fun u ho => by
  rw [ho.block _ (by simp) (fun hm => by
    have hl := h.lt
    have hs := h.two.size
    simp only [List.mem_cons, List.not_mem_nil, or_false] at hm
    rcases hm with e | e | e <;> omega)]
  exact heap_alloc_new w o
end
end Go.Proofs.YtnioagojiipjlaaGreat
