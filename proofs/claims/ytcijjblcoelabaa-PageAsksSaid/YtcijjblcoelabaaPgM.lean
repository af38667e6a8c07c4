/-
  What page.Ask comes to.
-/
import Derived.Test.YtcijjblcoelabaaPgH
import Derived.Test.YtcijjblcoelabaaTvP
import Derived.BigRegion
import Derived.Deep.RegionHeld3
import Derived.Deep.Cut
set_option linter.unusedVariables false
set_option linter.unusedSimpArgs false
namespace Go.Proofs.Ytcijjblcoelabaa
open Go.RowKit Go.Shelf

/-- What Ask answers. -/
def askV : Option (Int × List UInt8) → Value
  | some (n, c) => .tuple #[.int .i64 n, .string (Mt.str c), .bool true]
  | none => .tuple #[.int .i64 0, .string ⟨#[]⟩, .bool false]
def Mt.askS (l : List UInt8) : Option (Int × List UInt8) := match Mt.wholeL l with
  | .ok n => Mt.askPg n
  | .error _ => none
/-- Two kids of a node, in memory. -/
theorem two_kids {w : World} {ok : Nat → Prop} {h : Nat} {v : Value} {n a b : Mt.Nd} (hn : IsNd w ok h v n) (hk : n.kids = [a, b]) : ∃ g off c, v = .agg #[.int .i64 n.tag, .string (Mt.str n.data), .slice (some ⟨g, off, none⟩) 2 c] ∧
    ∃ ka na ca kb nb cb, (w.cell? ⟨g, off, none⟩ = some (.int .i64 a.tag) ∧ w.cell? ⟨g, off + 1, none⟩ = some (.string (Mt.str a.data)) ∧ w.cell? ⟨g, off + 2, none⟩ = some (.slice ka na ca)) ∧ (w.cell? ⟨g, off + 3, none⟩ = some (.int .i64 b.tag) ∧ w.cell? ⟨g, off + 3 + 1, none⟩ = some (.string (Mt.str b.data)) ∧ w.cell? ⟨g, off + 3 + 2, none⟩ = some (.slice kb nb cb)) ∧ a.data.length ≤ 140737488351232 := by
  cases h with
  | zero => exact hn.elim
  | succ h =>
    obtain ⟨ad, c, rfl, hd, hl, hkids⟩ := hn
    rw [hk] at hkids ⊢
    rcases hkids with h0 | ⟨g, off, rfl, -, hat⟩
    · cases h0
    · obtain ⟨x0, x1, x2, e0, e1, e2, hx⟩ := hat 0 (by simp)
      obtain ⟨y0, y1, y2, f0, f1, f2, hy⟩ := hat 1 (by simp)
      have hx2 := hx
      obtain ⟨ka, ca, ex⟩ := hx.form
      obtain ⟨kb, cb, ey⟩ := hy.form
      injection ex with ex
      injection ey with ey
      simp only [Array.mk.injEq, List.cons.injEq, and_true] at ex ey
      obtain ⟨rfl, rfl, rfl⟩ := ex
      obtain ⟨rfl, rfl, rfl⟩ := ey
      refine ⟨g, off, c, rfl, ka, _, ca, kb, _, cb, ⟨by simpa using e0, by simpa using e1, by simpa using e2⟩, ⟨by simpa using f0, by simpa using f1, by simpa using f2⟩, ?_⟩
      cases h with
      | zero => exact hx2.elim
      | succ h => obtain ⟨_, _, _, hd2, _⟩ := hx2; exact hd2
theorem Mt.wholeL_err {l : List UInt8} {e : Nat} (h : Mt.wholeL l = .error e) : e ≠ 0 := by
  unfold Mt.wholeL at h
  split at h
  · rename_i e' hp
    have := Mt.parseL_err _ _ _ hp
    injection h with h; omega
  · split at h
    · cases h
    · injection h with h; omega
set_option maxRecDepth 100000 in
set_option maxHeartbeats 1000000 in
theorem ask26_any (s : ByteArray) (w : World) (hs : s.size ≤ 140737488351232) : Calls Try.prog 21 #[.string s] w fun e w' => e = .returned (askV (Mt.askS s.data.toList)) ∧ Below w.heap.size w w' := by
  have HW := Lib.hid (Whole_any s w hs)
  have HSP : Hid (Mt.askS s.data.toList = match Mt.wholeL s.data.toList with | .ok n => Mt.askPg n | .error _ => none) := Lib.hid rfl
  have HER := Lib.hid (fun e => Mt.wholeL_err (l := s.data.toList) (e := e))
  unfold WholeP at HW
  generalize Mt.askS s.data.toList = R at *
  generalize Mt.wholeL s.data.toList = X at *
  clear hs
  go_enter Try.func21, Try.ntmps21
  go_wp2_with fail
  refine (HW.out).mono ?_
  rintro x w1 ⟨hb1, hx⟩
  have HB1 := Lib.hid hb1
  clear hb1
  cases X with
  | error e =>
    simp only at hx
    subst hx
    have hne := HER.out e rfl
    have he1 : ((e : Int) != 0) = true := by simp; omega
    have he2 : ((e : Int) == 0) = false := by simp; omega
    have hR := HSP.out
    simp only at hR
    subst hR
    clear HER HSP hne
    unfold zeroN
    go_wp2_with fail
    all_goals (go_ret3; exact ⟨rfl, HB1.out.alloc HB1.out.size _⟩)
  | ok n =>
    simp only at hx
    obtain ⟨v, rfl, hn⟩ := hx
    have hR := HSP.out
    simp only at hR
    subst hR
    clear HER HSP
    by_cases ht : n.tag = 48 ∧ ∃ a b, n.kids = [a, b]
    · obtain ⟨h48, a, b, hk⟩ := ht
      obtain ⟨g, off, c, rfl, ka, na, ca, kb, nb, cb, ⟨x0, x1, x2⟩, ⟨y0, y1, y2⟩, had⟩ := two_kids hn hk
      have hgl : g < w1.heap.size := World.block_lt_of_cell? w1 _ x0
      have hgne : ¬ g = w1.heap.size := by omega
      have hgne' : ¬ w1.heap.size = g := by omega
      rw [h48]
      obtain ⟨t, D, ks⟩ := n
      have h48' : t = 48 := h48
      have hk' : ks = [a, b] := hk
      subst h48' hk'
      obtain ⟨ta, da, kka⟩ := a
      obtain ⟨tb, db, kkb⟩ := b
      simp only [Mt.Nd.tag, Mt.Nd.data] at *
      have HA := Lib.hid (Mt.askPg_mk 48 ta tb D da db kka kkb)
      have HN := Lib.hid (number_any (Mt.str da))
      have hda : da.length ≤ 140737488351232 := had
      clear hn hk h48 had
      go_wp2_with fail
      have HWA : Hid (Below w.heap.size w (w1.alloc (.cells #[.int .i64 48, .string (Mt.str D), .slice (some ⟨g, off, none⟩) 2 c] 76))) := Lib.hid (HB1.out.alloc HB1.out.size _)
      obtain ⟨c0, c1, c2, -, -, -⟩ := box_of (heap_alloc_new w1 (.cells #[.int .i64 48, .string (Mt.str D), .slice (some ⟨g, off, none⟩) 2 c] 76))
      have hsz : (w1.alloc (.cells #[.int .i64 48, .string (Mt.str D), .slice (some ⟨g, off, none⟩) 2 c] 76)).heap.size = w1.heap.size + 1 := by simp
      have hbb := (Below.refl w1.heap.size w1).alloc (Nat.le_refl _) (.cells #[.int .i64 48, .string (Mt.str D), .slice (some ⟨g, off, none⟩) 2 c] 76)
      replace x0 := (hbb.cell (p := ⟨g, off, none⟩) hgl).trans x0
      replace x1 := (hbb.cell (p := ⟨g, off + 1, none⟩) hgl).trans x1
      replace x2 := (hbb.cell (p := ⟨g, off + 2, none⟩) hgl).trans x2
      replace y0 := (hbb.cell (p := ⟨g, off + 3, none⟩) hgl).trans y0
      replace y1 := (hbb.cell (p := ⟨g, off + 3 + 1, none⟩) hgl).trans y1
      replace y2 := (hbb.cell (p := ⟨g, off + 3 + 2, none⟩) hgl).trans y2
      clear hbb
      generalize w1.alloc (.cells #[.int .i64 48, .string (Mt.str D), .slice (some ⟨g, off, none⟩) 2 c] 76) = wA at *
      have hlB : w1.heap.size < wA.heap.size := by omega
      have hlg : g < wA.heap.size := by omega
      clear hsz HB1 hgl HW
      generalize w1.heap.size = B at *
      go_cut [7, 8] from 29 to 36 (fun t7 t8 wx => ∃ g7 g8, t7 = .pointer (some ⟨g7, 0, none⟩) ∧ t8 = .pointer (some ⟨g8, 0, none⟩) ∧ Hid (Below wA.heap.size wA wx ∧ wx.cell? ⟨g7, 0, none⟩ = some (.int .i64 ta) ∧ wx.cell? ⟨g7, 1, none⟩ = some (.string (Mt.str da)) ∧ wx.cell? ⟨g8, 0, none⟩ = some (.int .i64 tb) ∧ wx.cell? ⟨g8, 1, none⟩ = some (.string (Mt.str db))))
      case first =>
        have n1 : ¬ g = wA.heap.size := by omega
        have n2 : ¬ g = wA.heap.size + 1 := by omega
        have n3 : ¬ B = wA.heap.size := by omega
        have n4 : ¬ B = wA.heap.size + 1 := by omega
        go_region_held3 (fun w' => w'.cell? ⟨B, 2, none⟩ = some (.slice (some ⟨g, off, none⟩) 2 c) ∧ w'.cell? ⟨g, off, none⟩ = some (.int .i64 ta) ∧ w'.cell? ⟨g, off + 1, none⟩ = some (.string (Mt.str da)) ∧ w'.cell? ⟨g, off + 2, none⟩ = some (.slice ka na ca) ∧ w'.cell? ⟨g, off + 3, none⟩ = some (.int .i64 tb) ∧ w'.cell? ⟨g, off + 3 + 1, none⟩ = some (.string (Mt.str db)) ∧ w'.cell? ⟨g, off + 3 + 2, none⟩ = some (.slice kb nb cb))
          (first
            | go_keep)
          (first
            | fail)
        all_goals
          go_wp2_with fail
          go_meet
          case rel =>
            refine ⟨_, _, rfl, rfl, Lib.hid ⟨?_, ?_, ?_, ?_, ?_⟩⟩
            · exact ((((Below.refl wA.heap.size wA).alloc (Nat.le_refl _) _).alloc (by simp) _)).drew
            all_goals (repeat (first
              | rw [World.cell?_drew]
              | rw [World.cell?_alloc_at _ _ _ _ (by first | rfl | (simp; done) | (simp; omega))]
              | rw [World.cell?_alloc_past _ _ _ (by first | omega | (simp; done) | (simp; omega))]))
            all_goals rfl
      case rest =>
        obtain ⟨g7, g8, rfl, rfl, HQ⟩ := hcut
        obtain ⟨hq, z0, z1, v0, v1⟩ := HQ.out
        have HBx := Lib.hid (HWA.out.trans (hq.mono HWA.out.size))
        clear hq HQ c0 c1 c2 x0 x1 x2 y0 y1 y2 HWA hgne hgne' hlB hlg
        by_cases h2 : ta = 2
        · subst h2
          by_cases h4 : tb = 4
          · subst h4
            have hds : (Mt.str da).size ≤ 140737488351232 := by rw [Mt.str_size]; exact hda
            have hstr : (Mt.str da).data.toList = da := by first | rfl | simp [Mt.str]
            have HNX := Lib.hid (HN.out wc hds)
            unfold numV at HNX
            rw [hstr] at HNX
            generalize Mt.str da = SD at *
            clear hds hstr HN hda
            generalize Mt.numL da = nk at *
            obtain ⟨nm, okk⟩ := nk
            simp only [true_and] at HNX HA
            have HIZ := Lib.hid (fun u => isSize26_any nm u)
            go_wp2_with fail
            refine (HNX.out).mono ?_
            rintro e w4 ⟨rfl, hb4⟩
            have hg8 := World.block_lt_of_cell? wc _ v1
            replace v1 := (hb4.cell (p := ⟨g8, 1, none⟩) hg8).trans v1
            have HBy := Lib.hid (HBx.out.trans (hb4.mono HBx.out.size))
            clear hb4 z0 z1 v0 HNX HBx hg8
            cases okk with
            | false =>
              have HA' := Lib.hid (HA.out.trans (if_neg (fun h => by simp at h)))
              go_wp2_with fail
              all_goals (go_ret3; exact ⟨by rw [HA'.out]; rfl, HBy.out⟩)
            | true =>
              by_cases hr : 0 ≤ nm ∧ nm ≤ 2147483647
              · have HA' := Lib.hid (HA.out.trans (if_pos ⟨rfl, hr⟩))
                rw [decide_eq_true hr] at HIZ
                go_wp2_with fail
                refine (HIZ.out _).mono ?_
                rintro e w5 ⟨rfl, rfl⟩
                go_upto_region 10 with fail
                go_region_held3 (fun w' => w'.cell? ⟨g8, 1, none⟩ = some (.string (Mt.str db)))
                  (first
                    | go_keep)
                  (first
                    | fail)
                all_goals
                  go_wp2_with fail
                all_goals (go_ret3; exact ⟨by rw [HA'.out]; rfl, HBy.out.drew⟩)
              · have HA' := Lib.hid (HA.out.trans (if_neg (fun h => hr h.2)))
                rw [decide_eq_false hr] at HIZ
                go_wp2_with fail
                refine (HIZ.out _).mono ?_
                rintro e w5 ⟨rfl, rfl⟩
                go_wp2_with fail
                all_goals (go_ret3; exact ⟨by rw [HA'.out]; rfl, HBy.out⟩)
          · have h4' : (tb != 4) = true := by simp [h4]
            have HA' := Lib.hid (HA.out.trans (if_neg (fun h => h4 h.2.2.1)))
            clear h4
            go_wp2_with fail
            all_goals (go_ret3; exact ⟨by rw [HA'.out]; rfl, HBx.out⟩)
        · have h2' : (ta != 2) = true := by simp [h2]
          have HA' := Lib.hid (HA.out.trans (if_neg (fun h => h2 h.2.1)))
          clear h2
          go_wp2_with fail
          all_goals (go_ret3; exact ⟨by rw [HA'.out]; rfl, HBx.out⟩)
    · obtain ⟨na, nc, rfl⟩ := hn.form
      have hA : Mt.askPg n = none := by
        unfold Mt.askPg
        split
        · rename_i a b hk
          rw [if_neg (fun h => ht ⟨h.1, a, b, hk⟩)]
        · rfl
      have HA := Lib.hid hA
      by_cases h48 : n.tag = 48
      · have hk2 : n.kids.length ≠ 2 := fun h => ht ⟨h48, by
          match n.kids, h with
          | [a, b], _ => exact ⟨a, b, rfl⟩⟩
        have hki : ((n.kids.length : Int) != 2) = true := by simp; omega
        clear ht hn hA hk2
        rw [h48]
        go_wp2_with fail
        all_goals (go_ret3; exact ⟨by rw [HA.out]; rfl, HB1.out.alloc HB1.out.size _⟩)
      · have hti : (n.tag != 48) = true := by simp [h48]
        clear ht hn hA h48
        go_wp2_with fail
        all_goals (go_ret3; exact ⟨by rw [HA.out]; rfl, HB1.out.alloc HB1.out.size _⟩)
end Go.Proofs.Ytcijjblcoelabaa
