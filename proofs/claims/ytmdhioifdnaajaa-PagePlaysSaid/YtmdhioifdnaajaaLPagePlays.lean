/-
  PagePlays is proved: any calls, one behind the other, are answered as the document says. No condition.
-/
import Derived.Test.YtmdhioifdnaajaaRows
import Derived.Test.YtmdhioifdnaajaaPgV
import Derived.ProofKit
import Derived.OpenShut
import Derived.SizedLaws
set_option linter.unusedVariables false
set_option linter.unusedSimpArgs false
namespace Go.Proofs.Ytmdhioifdnaajaa.pagePlays
open Go.ChangeShapes Go.WideShapes Go.ChangeAt Go.RowKit Go.Shelf
set_option linter.unusedVariables false

theorem Try.infoStr26 : (Try.prog.info? 9).map (fun i => (i.zero, i.size, i.bytes)) = some (some (.string ⟨#[]⟩), 1, 16) := by kernel_rfl
theorem make_strs26 (k : Nat) (hk : k ≤ 100000) (w : World) : (Instr.makeSlice 30 (.int .i64 (k : Int)) (.int .i64 (k : Int))).run Try.prog w = .ok (.slice (some ⟨w.heap.size, 0, none⟩) k k) (w.alloc (.cells (Array.replicate k (.string ⟨#[]⟩)) 9)) := by
  obtain ⟨i, hi, hz, hs, hb⟩ := info_parts Try.infoStr26
  have h := run_make (P := Try.prog) w 30 9 i _ Try.underlying30 hi hz .i64 .i64 (k : Int) (k : Int) (by omega) (Int.le_refl _) (by rw [hb]; omega) (by omega)
  rw [Int.toNat_natCast, hs, Nat.mul_one] at h
  have e : madeCells (Value.string ⟨#[]⟩).cells k = Array.replicate k (.string ⟨#[]⟩) := by
    apply Array.ext'
    have := toList_madeCells_one (.string ⟨#[]⟩) k
    simpa [Value.cells] using this
  rw [e] at h
  exact h
/-- The cookies so far. -/
def Cks (cb n : Nat) (w : World) : Prop := ∃ cur : Array Value, w.heap[cb]? = some (.cells cur 9 (0, 0)) ∧ cur.size = n ∧ ∀ j, j < n → ∃ s, cur[j]? = some (.string s)
theorem Cks.kept {cb n : Nat} {w u : World} (h : Cks cb n w) (hb : u.heap[cb]? = w.heap[cb]?) : Cks cb n u := by
  obtain ⟨cur, h1, h2⟩ := h
  exact ⟨cur, hb.trans h1, h2⟩
theorem Cks.cell {cb n : Nat} {w : World} (h : Cks cb n w) {j : Nat} (hj : j < n) : ∃ s, w.cell? ⟨cb, j, none⟩ = some (.string s) ∧ w.frozen? ⟨cb, j, none⟩ = false := by
  obtain ⟨cur, h1, h2, h3⟩ := h
  obtain ⟨s, hs⟩ := h3 j hj
  exact ⟨s, by rw [cell_of_row _ _ _ _ _ _ h1]; exact hs, frozen_of_row _ _ _ _ _ h1⟩
theorem Cks.set {cb n : Nat} {w : World} (h : Cks cb n w) (j : Nat) (s : ByteArray) : Cks cb n (w.setCell ⟨cb, j, none⟩ (.string s)) := by
  obtain ⟨cur, h1, h2, h3⟩ := h
  refine ⟨_, heap_setCell_same w cb j _ _ (.string s) h1, by simpa using h2, fun m hm => ?_⟩
  obtain ⟨s', hs'⟩ := h3 m hm
  rw [Array.getElem?_setIfInBounds]
  by_cases e : j = m
  · rw [if_pos e, if_pos (by omega)]; exact ⟨s, rfl⟩
  · rw [if_neg e]; exact ⟨s', hs'⟩
/-- Where a round stands. -/
def St26 (base cb n B R i : Nat) (F : Nat → Prop) (w0 w : World) : Prop := (∃ l N L, Duo base F B R N l L l L w ∧ l ≤ i ∧ N ≤ i ∧ L.length ≤ i) ∧ Cks cb n w ∧ Below base w0 w
/-- Both books' taking of a cookie, behind a round's beginning. -/
def Two26 (base cb bx n B R i : Nat) (qc qv : Int) (qk : ByteArray) (w0 wx : World) (s : ByteArray) : Prop :=
  ∃ (x1 : Int) (x2 : Bool) (L0 L' : Mt.Bk) (N' l' : Nat),
    Hid (Calls Try.prog 6 #[.pointer (some ⟨B, 0, none⟩), .int .i64 qc, .string s, .string qk, .int .i64 qv] wx fun e w' => e = .returned (.tuple #[.int .i64 x1, .bool x2]) ∧ Duo base (fun k => k = cb ∨ k = bx) B R N' l' L' l' L0 w' ∧ Kp base (fun k => k = cb ∨ k = bx) wx w')
    ∧ Hid (∀ u, Duo base (fun k => k = cb ∨ k = bx) B R N' l' L' l' L0 u → Calls Try.prog 7 #[.pointer (some ⟨R, 0, none⟩), .int .i64 qc, .string s, .string qk, .int .i64 qv] u fun e w' => e = .returned (.tuple #[.int .i64 x1, .bool x2]) ∧ Duo base (fun k => k = cb ∨ k = bx) B R N' l' L' l' L' w' ∧ Kp base (fun k => k = cb ∨ k = bx) u w')
    ∧ Hid (∀ u v, Duo base (fun k => k = cb ∨ k = bx) B R N' l' L' l' L' v → Kp base (fun k => k = cb ∨ k = bx) wx u → Kp base (fun k => k = cb ∨ k = bx) u v → St26 base cb n B R (i + 1) (fun k => k = cb ∨ k = bx) w0 v)
theorem duoTakeBoth {base cb bx n B R i : Nat} {qc qv : Int} (qk : ByteArray) {w0 wx : World} (hc : (Lit.int .i64 qc).wf = true) (hi : i ≤ 100) (h : St26 base cb n B R i (fun k => k = cb ∨ k = bx) w0 wx) (s : ByteArray) : Two26 base cb bx n B R i qc qv qk w0 wx s := by
  obtain ⟨⟨l0, N0, L0, hd, h1, h2, h3⟩, hck, hb0⟩ := h
  refine ⟨_, _, L0, _, N0 + 1, l0, Lib.hid (duoTakeP (c := qc) (ver := qv) s qk hc (by omega) hd), Lib.hid (fun u hu => duoTakeR (c := qc) (ver := qv) s qk (by omega) (fun q hq => by have := hd.num q hq; omega) hu), Lib.hid (fun u v hv ha hb => ⟨⟨l0, N0 + 1, _, hv, by omega, by omega, ?_⟩, hck.kept (((ha.trans hb).2 cb (.inl rfl))), hb0.trans ((ha.trans hb).1)⟩)⟩
  exact Nat.le_trans (List.length_filter_le _ _) (Nat.le_trans h3 (Nat.le_succ _))
/-- Both books' keeping, behind a round's beginning. -/
theorem duoKeepBoth {base cb bx n B R i : Nat} {qc qv qa : Int} (qk : ByteArray) {w0 wx : World} (hc : (Lit.int .i64 qc).wf = true) (hi : i ≤ 100) (h : St26 base cb n B R i (fun k => k = cb ∨ k = bx) w0 wx) :
    ∃ (K : ByteArray) (L0 L' : Mt.Bk) (N' l' l0 : Nat),
    Hid (Calls Try.prog 10 #[.pointer (some ⟨B, 0, none⟩), .int .i64 qc, .string qk, .int .i64 qv, .int .i64 qa] wx fun e w' => e = .returned (.string K) ∧ Duo base (fun k => k = cb ∨ k = bx) B R N' l' L' l0 L0 w' ∧ Kp base (fun k => k = cb ∨ k = bx) wx w')
    ∧ Hid (∀ u, Duo base (fun k => k = cb ∨ k = bx) B R N' l' L' l0 L0 u → Calls Try.prog 11 #[.pointer (some ⟨R, 0, none⟩), .int .i64 qc, .string qk, .int .i64 qv, .int .i64 qa] u fun e w' => e = .returned (.string K) ∧ Duo base (fun k => k = cb ∨ k = bx) B R N' l' L' l' L' w' ∧ Kp base (fun k => k = cb ∨ k = bx) u w')
    ∧ Hid (∀ u, Duo base (fun k => k = cb ∨ k = bx) B R N' l' L' l' L' u → Below base w0 u → Cks cb n u → St26 base cb n B R (i + 1) (fun k => k = cb ∨ k = bx) w0 u) := by
  obtain ⟨⟨l0, N0, L0, hd, h1, h2, h3⟩, hck, hb0⟩ := h
  refine ⟨ck (l0 + 1), L0, Mt.keepB qc ⟨l0 + 1, qk, qv, qa⟩ L0, N0 + 1, l0 + 1, l0, Lib.hid (duoKeepP (c := qc) (ver := qv) (at' := qa) qk hc (by omega) hd), Lib.hid (fun u hu => duoKeepR qc qv qa qk (by omega) (by omega) hu), Lib.hid (fun u hv hb hc2 => ⟨⟨l0 + 1, N0 + 1, _, hv, by omega, by omega, ?_⟩, hc2, hb⟩)⟩
  have := (Mt.cutB_sub qc ((Mt.rowB qc L0).length + 1) (L0 ++ [(qc, ⟨l0 + 1, qk, qv, qa⟩)])).length_le
  rw [List.length_append] at this
  unfold Mt.keepB
  simp at this ⊢
  omega
set_option maxRecDepth 100000 in
set_option maxHeartbeats 4000000 in
theorem walk (l : List Mt.Ac) (v : Value) (w : World) (hv : IsActs w v l) : Calls Try.prog 3 #[v] w fun e w' => e = .returned (.bool true) ∧ Below w.heap.size w w' := by
  obtain ⟨a, cap, rfl, hcap, HA⟩ := hv
  have HAW := Lib.hid (fun u => awake26_any u)
  by_cases hbig : (100 : Int) < (l.length : Int)
  · go_enter Try.func3, Try.ntmps3
    go_wp2_with fail
    refine (HAW.out _).mono ?_
    rintro e w1 ⟨rfl, hb⟩
    go_wp2_with fail
    all_goals (go_ret; exact ⟨rfl, hb⟩)
  · obtain ⟨n, hn⟩ : ∃ n, l.length = n := ⟨_, rfl⟩
    have HN := Lib.hid hn
    rw [hn] at hbig hcap
    have HN100 : Hid (n ≤ 100) := Lib.hid (by omega)
    have hn0 : ¬ (n : Int) < 0 := by omega
    rw [hn]
    clear hn hcap
    go_enter Try.func3, Try.ntmps3
    go_wp2_with fail
    refine (new26_any _).mono ?_
    rintro e w1 ⟨B, S, rfl, hbk, hb1, hS⟩
    have HBK := Lib.hid hbk
    have HB1 := Lib.hid hb1
    have HS := Lib.hid hS
    clear hbk hb1 hS
    obtain ⟨w2, hw2⟩ : ∃ u, w1.alloc (.cells #[.int .i64 0, .slice none 0 0] 29) = u := ⟨_, rfl⟩
    have hR := heap_alloc_new w1 (.cells #[.int .i64 0, .slice none 0 0] 29)
    have hb2 := (Below.refl w1.heap.size w1).alloc (Nat.le_refl _) (.cells #[.int .i64 0, .slice none 0 0] 29)
    have hs2 : (w1.alloc (.cells #[.int .i64 0, .slice none 0 0] 29)).heap.size = w1.heap.size + 1 := by simp
    rw [hw2] at hR hb2 hs2
    have hmk := make_strs26 n (by have := HN100.out; omega) w2
    obtain ⟨w3, hw3⟩ : ∃ u, w2.alloc (.cells (Array.replicate n (.string ⟨#[]⟩)) 9) = u := ⟨_, rfl⟩
    have hC := heap_alloc_new w2 (.cells (Array.replicate n (.string ⟨#[]⟩)) 9)
    have hb3 := (Below.refl w2.heap.size w2).alloc (Nat.le_refl _) (.cells (Array.replicate n (.string ⟨#[]⟩)) 9)
    rw [hw3] at hmk hC hb3
    have hbase : w.heap.size ≤ w1.heap.size := HB1.out.size
    have HST : Hid (St26 w.heap.size w2.heap.size n B w1.heap.size 0 (fun k => k = w2.heap.size) w w3) := Lib.hid (by
      have hBK2 := HBK.out.below hb2
      have hrb : IsRB w2 w1.heap.size (fun k => k = w1.heap.size) 0 [] := ⟨⟨none, 0, w1.heap.size, hR, IsRw.nil _ _ _ _, rfl, rfl⟩, fun k hk => by rw [hk, hs2]; omega⟩
      have hduo : Duo w.heap.size (fun _ => False) B w1.heap.size 0 0 [] 0 [] w2 := ⟨S, _, hBK2, hrb, fun k hk e => by have := HBK.out.lt k hk; omega, fun k hk => ⟨HS.out k hk, fun e => e⟩, fun k hk => ⟨by rw [hk]; exact hbase, fun e => e⟩, fun k e => e.elim, by omega⟩
      refine ⟨⟨0, 0, [], hduo.below hb3 (fun k hk => .inr (by rw [hk]; exact Nat.le_refl _)) (fun k hk => by rw [hk]; exact lt_of_block hC), Nat.le_refl _, Nat.le_refl _, Nat.le_refl _⟩, ⟨_, hC, by simp, fun j hj => ⟨⟨#[]⟩, by simp [hj]⟩⟩, HB1.out.trans ((hb2.mono hbase).trans (hb3.mono (by omega)))⟩)
    have HCBL : Hid (w.heap.size ≤ w2.heap.size) := Lib.hid (by rw [hs2]; omega)
    clear hR hb2 hs2 hw3 hC hb3
    go_wp2_with fail
    generalize w2.heap.size = cb at *
    generalize w1.heap.size = R at *
    go_loopw [25] (fun kv wr => ∃ i : Nat, i ≤ n ∧ kv = .int .i64 (i : Int) ∧ Hid (St26 w.heap.size cb n B R i (fun k => k = cb) w wr)) (fun kv _ => n - (intOf kv).toNat)
    case atStart => exact ⟨0, Nat.zero_le _, rfl, HST⟩
    case round =>
      obtain ⟨i, hi, rfl, HSI⟩ := hrel
      by_cases hlt : i < n
      · have hil : i < l.length := by rw [HN.out]; exact hlt
        obtain ⟨b, off, rfl, hbl, hat, hwd, hwc, hwo⟩ := HA.out i hil
        obtain ⟨q, hq⟩ : ∃ q, l[i] = q := ⟨_, rfl⟩
        rw [hq] at hat hwd hwc hwo
        have hBe := HSI.out.2.2
        obtain ⟨x0, x1, x2, x3, x4, x5, x6⟩ := hat
        replace x0 := (hBe.cell (p := ⟨b, off + i * 7, none⟩) hbl).trans x0
        replace x1 := (hBe.cell (p := ⟨b, off + i * 7 + 1, none⟩) hbl).trans x1
        replace x2 := (hBe.cell (p := ⟨b, off + i * 7 + 2, none⟩) hbl).trans x2
        replace x3 := (hBe.cell (p := ⟨b, off + i * 7 + 3, none⟩) hbl).trans x3
        replace x4 := (hBe.cell (p := ⟨b, off + i * 7 + 4, none⟩) hbl).trans x4
        replace x5 := (hBe.cell (p := ⟨b, off + i * 7 + 5, none⟩) hbl).trans x5
        replace x6 := (hBe.cell (p := ⟨b, off + i * 7 + 6, none⟩) hbl).trans x6
        obtain ⟨qd, qc, qv, qa, qo, qk, qs⟩ := q
        simp only at x0 x1 x2 x3 x4 x5 x6 hwd hwc hwo
        obtain ⟨wx, hwx⟩ : ∃ u, wr.alloc (.cells #[.int .i64 qd, .int .i64 qc, .int .i64 qv, .int .i64 qa, .int .i64 qo, .string qk, .string qs] 32) = u := ⟨_, rfl⟩
        have hba : Below wr.heap.size wr wx := by rw [← hwx]; exact (Below.refl _ wr).alloc (Nat.le_refl _) _
        have hka : wx.heap[wr.heap.size]? = some (.cells #[.int .i64 qd, .int .i64 qc, .int .i64 qv, .int .i64 qa, .int .i64 qo, .string qk, .string qs] 32) := by rw [← hwx]; exact heap_alloc_new wr _
        obtain ⟨bx, hbx⟩ : ∃ bx, wr.heap.size = bx := ⟨_, rfl⟩
        have HSX : Hid (St26 w.heap.size cb n B R i (fun k => k = cb ∨ k = bx) w wx) := Lib.hid (by
          obtain ⟨⟨l0, N0, L0, hd, h1, h2, h3⟩, hck, hb0⟩ := HSI.out
          have hcl : cb < wr.heap.size := by obtain ⟨cur, hc, _⟩ := hck; exact lt_of_block hc
          have hxl := lt_of_block hka
          refine ⟨⟨l0, N0, L0, hd.below hba (fun k hk => ?_) (fun k hk => ?_), h1, h2, h3⟩, hck.kept (hba.block cb hcl), hb0.trans (hba.mono hb0.size)⟩
          · rcases hk with hk | hk
            · exact .inl hk
            · exact .inr (by rw [hk, hbx]; exact Nat.le_refl _)
          · rcases hk with hk | hk
            · rw [hk]; exact Nat.lt_of_lt_of_le hcl hba.size
            · rw [hk, ← hbx]; exact hxl)
        have HXB : Hid (bx ≠ cb ∧ ∀ u, Below w.heap.size wx u → bx < u.heap.size) := Lib.hid (by
          obtain ⟨-, ⟨cur, hc, _⟩, -⟩ := HSI.out
          have hcl : cb < wr.heap.size := lt_of_block hc
          have hxl := lt_of_block hka
          exact ⟨by omega, fun u hu => by have := hu.size; omega⟩)
        rw [hbx] at hka
        have HBXC : Hid (∀ u : World, u.heap[bx]? = wx.heap[bx]? → u.cell? ⟨bx, 0, none⟩ = some (.int .i64 qd) ∧ u.cell? ⟨bx, 1, none⟩ = some (.int .i64 qc) ∧ u.cell? ⟨bx, 2, none⟩ = some (.int .i64 qv) ∧ u.cell? ⟨bx, 3, none⟩ = some (.int .i64 qa) ∧ u.cell? ⟨bx, 4, none⟩ = some (.int .i64 qo) ∧ u.cell? ⟨bx, 5, none⟩ = some (.string qk) ∧ u.cell? ⟨bx, 6, none⟩ = some (.string qs)) := Lib.hid (fun u hu => by
          have h9 := hu.trans hka
          exact ⟨cell_of_row _ _ 0 _ _ _ h9, cell_of_row _ _ 1 _ _ _ h9, cell_of_row _ _ 2 _ _ _ h9, cell_of_row _ _ 3 _ _ _ h9, cell_of_row _ _ 4 _ _ _ h9, cell_of_row _ _ 5 _ _ _ h9, cell_of_row _ _ 6 _ _ _ h9⟩)
        have d1 : decide ((i : Int) < (n : Int)) = true := decide_eq_true (Int.ofNat_lt.2 hlt)
        have d2 : decide (i < n) = true := decide_eq_true hlt
        have i0 : (0 : Int) ≤ (i : Int) := Int.natCast_nonneg i
        have i1 : (i : Int) < (n : Int) := Int.ofNat_lt.2 hlt
        have wk : wrap64 ((i : Int) + 1) = ((i + 1 : Nat) : Int) := by unfold wrap64; have := HN100.out; omega
        have HWC := Lib.hid hwc
        clear hil hbl hwd hwc hwo hq hBe hba hka
        go_upto_region 8 with fail
        clear hwx x0 x1 x2 x3 x4 x5 x6
        obtain ⟨y0, y1, y2, y3, y4, y5, y6⟩ := HBXC.out wx rfl
        go_cut [32] from 30 to 32 (fun t32 wy => (∃ r : Int, t32 = .int .i64 r) ∧ wy = wx)
        case first =>
          go_wp2_with fail
          go_meet
          case rel => exact ⟨⟨_, rfl⟩, rfl⟩
        case rest =>
        obtain ⟨⟨r, rfl⟩, hcw⟩ := hcut
        obtain rfl := hcw.symm
        rename_i hK
        refine hK _ _ ?_
        go_cut [] from 26 to 122 (fun wy => Hid (St26 w.heap.size cb n B R (i + 1) (fun k => k = cb ∨ k = bx) w wy))
        case first =>
          have hN100 := HN100.out
          by_cases hr1 : r = 1 ∨ r = -1
          · rcases hr1 with rfl | rfl
            all_goals
              have HT := Lib.hid (duoTakeBoth (qc := qc) (qv := qv) (i := i) (cb := cb) (n := n) (bx := bx) (w0 := w) (wx := wx) qk HWC.out (Nat.le_trans hi hN100) HSX.out)
              have HTS : Hid (∃ s, (if 0 ≤ qo ∧ qo < (i : Int) then (∃ k : Nat, qo = k ∧ k < i ∧ wx.cell? ⟨cb, k, none⟩ = some (.string s)) else s = qs) ∧ Two26 w.heap.size cb bx n B R i qc qv qk w wx s) := Lib.hid (by
                by_cases o : 0 ≤ qo ∧ qo < (i : Int)
                · obtain ⟨k, hk⟩ : ∃ k : Nat, qo = k := ⟨qo.toNat, by omega⟩
                  obtain ⟨s, z1, z2⟩ := HSX.out.2.1.cell (j := k) (by omega)
                  exact ⟨s, by rw [if_pos o]; exact ⟨k, hk, by omega, z1⟩, HT.out s⟩
                · exact ⟨qs, by rw [if_neg o], HT.out qs⟩)
              clear HT
              obtain ⟨s, hs, x1, x2, L0, L', N', l', HT1, HT2, HEND⟩ := HTS.out
              clear HTS
              by_cases o1 : 0 ≤ qo
              · by_cases o2 : qo < (i : Int)
                · rw [if_pos ⟨o1, o2⟩] at hs
                  obtain ⟨k, rfl, o3, z1⟩ := hs
                  have o4 : k < n := by omega
                  have o5 : (k : Int) < (n : Int) := Int.ofNat_lt.2 o4
                  have e1 : decide ((0 : Int) ≤ (k : Int)) = true := decide_eq_true o1
                  have e2 : decide ((k : Int) < (i : Int)) = true := decide_eq_true o2
                  have e3 : decide (k < i) = true := decide_eq_true o3
                  go_wp2_with fail
                  refine (HT1.out).mono ?_
                  rintro e w5 ⟨rfl, hd5, hk5⟩
                  obtain ⟨v0, v1, v2, v3, v4, v5, v6⟩ := HBXC.out w5 (hk5.2 bx (.inr rfl))
                  have HD5 := Lib.hid hd5
                  have HK5 := Lib.hid hk5
                  clear hd5 hk5
                  go_wp2_with fail
                  refine (HT2.out _ HD5.out).mono ?_
                  rintro e w6 ⟨rfl, hd6, hk6⟩
                  have HZ := Lib.hid (HEND.out _ _ hd6 HK5.out hk6)
                  clear hd6 hk6
                  go_wp2_with fail
                  go_meet
                  case rel => exact HZ
                · rw [if_neg (fun o => o2 o.2)] at hs
                  subst hs
                  have e1 : decide ((0 : Int) ≤ qo) = true := decide_eq_true o1
                  have e2 : decide (qo < (i : Int)) = false := decide_eq_false o2
                  go_wp2_with fail
                  refine (HT1.out).mono ?_
                  rintro e w5 ⟨rfl, hd5, hk5⟩
                  obtain ⟨v0, v1, v2, v3, v4, v5, v6⟩ := HBXC.out w5 (hk5.2 bx (.inr rfl))
                  have HD5 := Lib.hid hd5
                  have HK5 := Lib.hid hk5
                  clear hd5 hk5
                  go_wp2_with fail
                  refine (HT2.out _ HD5.out).mono ?_
                  rintro e w6 ⟨rfl, hd6, hk6⟩
                  have HZ := Lib.hid (HEND.out _ _ hd6 HK5.out hk6)
                  clear hd6 hk6
                  go_wp2_with fail
                  go_meet
                  case rel => exact HZ
              · rw [if_neg (fun o => o1 o.1)] at hs
                subst hs
                have e1 : decide ((0 : Int) ≤ qo) = false := decide_eq_false o1
                go_wp2_with fail
                refine (HT1.out).mono ?_
                rintro e w5 ⟨rfl, hd5, hk5⟩
                obtain ⟨v0, v1, v2, v3, v4, v5, v6⟩ := HBXC.out w5 (hk5.2 bx (.inr rfl))
                have HD5 := Lib.hid hd5
                have HK5 := Lib.hid hk5
                clear hd5 hk5
                go_wp2_with fail
                refine (HT2.out _ HD5.out).mono ?_
                rintro e w6 ⟨rfl, hd6, hk6⟩
                have HZ := Lib.hid (HEND.out _ _ hd6 HK5.out hk6)
                clear hd6 hk6
                go_wp2_with fail
                go_meet
                case rel => exact HZ
          · by_cases hr2 : r = 2 ∨ r = -2
            · rcases hr2 with rfl | rfl
              all_goals
                obtain ⟨⟨l0, N0, L0, hd, h1, h2, h3⟩, hck, hb0⟩ := HSX.out
                have hLt : (Mt.dropB qc L0).length ≤ L0.length := List.length_filter_le _ _
                have HT1 := Lib.hid (duoDropP (c := qc) HWC.out hd)
                have HT2 : Hid (∀ u, Duo w.heap.size (fun k => k = cb ∨ k = bx) B R N0 l0 (Mt.dropB qc L0) l0 L0 u → _) := Lib.hid (fun u hu => duoDropR qc (by omega) hu)
                have HEND : Hid (∀ u v, Duo w.heap.size (fun k => k = cb ∨ k = bx) B R N0 l0 (Mt.dropB qc L0) l0 (Mt.dropB qc L0) v → Kp w.heap.size (fun k => k = cb ∨ k = bx) wx u → Kp w.heap.size (fun k => k = cb ∨ k = bx) u v → St26 w.heap.size cb n B R (i + 1) (fun k => k = cb ∨ k = bx) w v) := Lib.hid (fun u v hv ha hb => ⟨⟨l0, N0, _, hv, by omega, by omega, by omega⟩, hck.kept (((ha.trans hb).2 cb (.inl rfl))), hb0.trans ((ha.trans hb).1)⟩)
                clear hd h1 h2 h3 hck hb0 hLt
                go_wp2_with fail
                refine (HT1.out).mono ?_
                rintro e w5 ⟨rfl, hd5, hk5⟩
                obtain ⟨v0, v1, v2, v3, v4, v5, v6⟩ := HBXC.out w5 (hk5.2 bx (.inr rfl))
                have HD5 := Lib.hid hd5
                have HK5 := Lib.hid hk5
                clear hd5 hk5
                go_wp2_with fail
                refine (HT2.out _ HD5.out).mono ?_
                rintro e w6 ⟨rfl, hd6, hk6⟩
                have HZ := Lib.hid (HEND.out _ _ hd6 HK5.out hk6)
                clear hd6 hk6
                go_wp2_with fail
                go_meet
                case rel => exact HZ
            · have b1 : (r == 1) = false := by simpa using fun e => hr1 (.inl e)
              have b2 : (r == -1) = false := by simpa using fun e => hr1 (.inr e)
              have b3 : (r == 2) = false := by simpa using fun e => hr2 (.inl e)
              have b4 : (r == -2) = false := by simpa using fun e => hr2 (.inr e)
              clear hr1 hr2
              obtain ⟨K, L0, L', N', l', l0, HT1, HT2, HEND⟩ := duoKeepBoth (qc := qc) (qv := qv) (qa := qa) qk HWC.out (Nat.le_trans hi hN100) HSX.out
              have HCK := Lib.hid HSX.out.2.1
              have HB0 := Lib.hid HSX.out.2.2
              go_wp2_with fail
              refine (HT1.out).mono ?_
              rintro e w5 ⟨rfl, hd5, hk5⟩
              have HCK5 := Lib.hid (HCK.out.kept (hk5.2 cb (.inl rfl)))
              have HB5 := Lib.hid (HB0.out.trans hk5.1)
              obtain ⟨s9, z1, z2⟩ := HCK5.out.cell hlt
              have HX6 := Lib.hid (HBXC.out w5 (hk5.2 bx (.inr rfl)))
              have HD6 := Lib.hid (hd5.kept (((OnlyS.refl [cb] w5).setCell (g := cb) (i := i) (by simp) (.string K)).toP (fun k hk => .inl (.inl (by simpa using hk)))))
              have HC6 := Lib.hid (HCK5.out.set i K)
              have hK6 : (w5.setCell ⟨cb, i, none⟩ (.string K)).cell? ⟨cb, i, none⟩ = some (.string K) := World.cell?_setCell_same' _ _ _ (by simp [z1])
              have hX6 : (w5.setCell ⟨cb, i, none⟩ (.string K)).heap[bx]? = wx.heap[bx]? := by
                refine Eq.trans ?_ (hk5.2 bx (.inr rfl))
                exact ((OnlyS.refl [cb] w5).setCell (g := cb) (i := i) (by simp) (.string K)).block bx (HXB.out.2 w5 hk5.1) (by simpa using HXB.out.1)
              have hB6 : Below w.heap.size w5 (w5.setCell ⟨cb, i, none⟩ (.string K)) := (Below.refl _ _).setCell (p := ⟨cb, i, none⟩) (HCBL.out) _
              clear hd5 hk5
              go_upto_region 10 with fail
              generalize w5.setCell ⟨cb, i, none⟩ (.string K) = w6 at *
              have HQ : Hid (∀ u : World, (∀ k, k = cb ∨ k = bx → u.heap[k]? = w6.heap[k]?) → u.cell? ⟨cb, i, none⟩ = some (.string K) ∧ u.cell? ⟨bx, 1, none⟩ = some (.int .i64 qc) ∧ u.cell? ⟨bx, 5, none⟩ = some (.string qk) ∧ u.cell? ⟨bx, 2, none⟩ = some (.int .i64 qv) ∧ u.cell? ⟨bx, 3, none⟩ = some (.int .i64 qa)) := Lib.hid (fun u hu => by
                obtain ⟨q0, q1, q2, q3, q4, q5, q6⟩ := HBXC.out u ((hu bx (.inr rfl)).trans hX6)
                exact ⟨(cell_sameH (hu cb (.inl rfl))).trans hK6, q1, q5, q2, q3⟩)
              have HT6 : Hid (∀ u, Below w6.heap.size w6 u → Calls Try.prog 11 #[.pointer (some ⟨R, 0, none⟩), .int .i64 qc, .string qk, .int .i64 qv, .int .i64 qa] u fun e w' => e = .returned (.string K) ∧ (w'.cell? ⟨cb, i, none⟩ = some (.string K) ∧ w'.cell? ⟨bx, 1, none⟩ = some (.int .i64 qc) ∧ w'.cell? ⟨bx, 5, none⟩ = some (.string qk) ∧ w'.cell? ⟨bx, 2, none⟩ = some (.int .i64 qv) ∧ w'.cell? ⟨bx, 3, none⟩ = some (.int .i64 qa)) ∧ ∀ v, Below w'.heap.size w' v → St26 w.heap.size cb n B R (i + 1) (fun k => k = cb ∨ k = bx) w v) := Lib.hid (fun u hu => by
                have hF : ∀ k, (k = cb ∨ k = bx) → k < w6.heap.size := by obtain ⟨_, _, _, _, _, _, _, h9, _⟩ := HD6.out; exact h9
                refine (HT2.out u (HD6.out.below hu (fun k hk => .inl hk) (fun k hk => Nat.lt_of_lt_of_le (hF k hk) hu.size))).mono ?_
                rintro e w7 ⟨he, hd7, hk7⟩
                refine ⟨he, HQ.out w7 (fun k hk => (hk7.2 k hk).trans (hu.block k (hF k hk))), fun v hv => ?_⟩
                have hF7 : ∀ k, (k = cb ∨ k = bx) → k < w7.heap.size := by obtain ⟨_, _, _, _, _, _, _, h9, _⟩ := hd7; exact h9
                refine HEND.out v (hd7.below hv (fun k hk => .inl hk) (fun k hk => Nat.lt_of_lt_of_le (hF7 k hk) hv.size)) ?_ (HC6.out.kept ((hv.block cb (hF7 cb (.inl rfl))).trans ((hk7.2 cb (.inl rfl)).trans (hu.block cb (hF cb (.inl rfl))))))
                have h0 : w.heap.size ≤ w6.heap.size := (HB5.out.trans hB6).size
                exact (HB5.out.trans hB6).trans ((hu.mono h0).trans (hk7.1.trans (hv.mono (Nat.le_trans h0 (Nat.le_trans hu.size hk7.1.size))))))
              obtain ⟨q0, q1, q5, q2, q3⟩ := HQ.out w6 (fun _ _ => rfl)
              have HR6 := Lib.hid (Below.refl w6.heap.size w6)
              clear HT2 HQ HEND hB6 hX6 hK6
              go_region_held3 (fun w' => w'.cell? ⟨cb, i, none⟩ = some (.string K) ∧ w'.cell? ⟨bx, 1, none⟩ = some (.int .i64 qc) ∧ w'.cell? ⟨bx, 5, none⟩ = some (.string qk) ∧ w'.cell? ⟨bx, 2, none⟩ = some (.int .i64 qv) ∧ w'.cell? ⟨bx, 3, none⟩ = some (.int .i64 qa))
                (first
                  | go_keep
                  | exact qq)
                (first
                  | (go_at_call 11; (with_reducible refine (HT6.out _ (by first | exact HR6.out | exact HR6.out.drew)).mono ?_); rintro e w7 ⟨rfl, hq, hz⟩; have qq := hq; have HZ := Lib.hid hz; clear hq hz))
              all_goals
                go_wp2_with fail
                go_meet
                case rel => exact Lib.hid (HZ.out _ (by first | exact Below.refl _ _ | exact (Below.refl _ _).drew))
        case rest =>
          obtain ⟨⟨l1, N1, L1, hd, hl1, hN1, hL1⟩, hck, hbe⟩ := hcut.out
          obtain ⟨a5, cp5, hrow⟩ := hd.row
          have hF : ∀ k, (k = cb ∨ k = bx) → k < wc.heap.size := by obtain ⟨_, _, _, _, _, _, _, h9, _⟩ := hd; exact h9
          have HLEN : Hid (∀ u, Below wc.heap.size wc u → Calls Try.prog 12 #[.pointer (some ⟨B, 0, none⟩)] u fun e w' => e = .returned (.int .i64 (L1.length : Int)) ∧ Below u.heap.size u w') := Lib.hid (fun u hu => duoLen (by have := HN100.out; omega) (hd.below hu (fun k hk => .inl hk) (fun k hk => Nat.lt_of_lt_of_le (hF k hk) hu.size)))
          have HEND : Hid (∀ u, Below wc.heap.size wc u → St26 w.heap.size cb n B R (i + 1) (fun k => k = cb) w u) := Lib.hid (fun u hu => ⟨⟨l1, N1, L1, hd.below hu (fun k hk => .inl (.inl hk)) (fun k hk => Nat.lt_of_lt_of_le (hF k (.inl hk)) hu.size), hl1, hN1, hL1⟩, hck.kept (hu.block cb (hF cb (.inl rfl))), hbe.trans (hu.mono hbe.size)⟩)
          obtain ⟨⟨-, s1⟩, -⟩ := box2G hrow
          have hRl := lt_of_block hrow
          obtain ⟨m, hm⟩ : ∃ m, L1.length = m := ⟨_, rfl⟩
          rw [hm] at s1 HLEN
          have HR9 := Lib.hid (Below.refl wc.heap.size wc)
          clear hcut hd hl1 hN1 hL1 hck hbe hrow hF hm
          go_upto_region 25 with fail
          go_region_held3 (fun w' => w'.cell? ⟨R, 1, none⟩ = some (.slice a5 m cp5))
            (first
              | go_keep
              | exact qq)
            (first
              | (go_at_call 12; (with_reducible refine (HLEN.out _ (by first | exact HR9.out | exact HR9.out.drew)).mono ?_); rintro e w4 ⟨rfl, hb⟩; have qq := (hb.cell (p := ⟨R, 1, none⟩) hRl).trans s1; have HE9 := Lib.hid (HEND.out _ (by first | exact (HR9.out.trans hb) | exact (HR9.out.drew.trans hb) | exact (HR9.out.trans hb).drew | exact (HR9.out.drew.trans hb).drew)); clear hb))
          all_goals
            go_wp2_with fail
            go_roundw
            case rel => exact ⟨i + 1, hlt, by first | rfl | go_num, by first | exact HE9 | exact Lib.hid (HEND.out _ (by assumption))⟩
            case measure => first | exact meas_stepB hlt | (rw [wk]; exact meas_stepB hlt)
      · obtain rfl : i = n := by omega
        have d1 : decide ((i : Int) < (i : Int)) = false := decide_eq_false (Int.lt_irrefl _)
        have d2 : decide (i < i) = false := decide_eq_false (Nat.lt_irrefl _)
        have HBE := Lib.hid HSI.out.2.2
        go_wp2_with fail
        refine (HAW.out _).mono ?_
        rintro e w9 ⟨rfl, hb⟩
        have HBF := Lib.hid (HBE.out.trans (hb.mono HBE.out.size))
        clear hb
        go_wp2_with fail
        all_goals (go_ret; exact ⟨rfl, HBF.out⟩)

/-! The step from the walk to the row. -/
theorem own : ownKnob Try.prog.godebug = none := by kernel_rfl
theorem laidOut : laidOutB Try.prog = true := by kernel_rfl

set_option maxRecDepth 100000 in
theorem lifted (os : Os) (started : os.Started) (H : Type) (enc : TypeId × Value → H) :
    ReturnsInHanded {} Try.checked os 3 .any (Rows.pagePlaysSpec.pre6 enc Try.prog Try.f3 Rows.pagePlaysRow.domain false) (Rows.pagePlaysSpec.post enc Try.prog Try.f3 false true false false) := by
  refine returnsInHanded_of_change_sized (C := Try.checked) own started (by kernel_rfl) Try.func3
    (ChangeSpec.witness6 (enc := enc) (C := Try.checked) false ⟨#[], #[.slice none 0 0], []⟩ 8 (by kernel_rfl) (by kernel_rfl) (by kernel_rfl) (by kernel_rfl)) ?_
  intro W base args ds gs before hval0 hW _ hsz0 _
  have hsz : (DataW.weightsEach Try.prog (Try.f3.params.toList ++ Rows.pagePlaysSpec.plain.varTypes Try.prog) (ds ++ gs)).all (· ≤ reachBytes) = true := hsz0
  have hval : ∀ (j : Nat) t v, Try.f3.params[j]? = some t → args[j]? = some v → Value.okWide Try.prog W .any base t v := hval0
  have hW' := hW
  obtain ⟨p, q, hA0, hV, rfl, _, _⟩ := hW
  have hA : DataW.TrodAll enc Try.prog W 0 (fun _ => true) true Try.f3.params.toList args.toList ds p := hA0
  rw [Try.params3] at hA hval hsz
  obtain ⟨v0, vs0, d0, ds0, p0, q0, hargs, rfl, rfl, h0, r0⟩ := trodAll_cons hA
  obtain ⟨rfl, rfl, rfl⟩ := trodAll_nil r0
  obtain rfl : args = #[v0] := by cases args; simp_all
  obtain ⟨rfl, rfl⟩ := trodVars_none hV
  obtain ⟨a0, n0, c0, rfl⟩ := okWide_slice Try.underlying22 (hval 0 22 v0 rfl rfl)
  have k0 := h0
  have lt0 : ∀ x ∈ p0, x.block < W.heap.size := by obtain ⟨m, hm⟩ := k0; exact DataW.trod_lt m _ _ _ hm
  obtain ⟨l0, w0⟩ := open_acts h0
  clear hA0 hval0
  simp only [List.append_nil] at hW'
  refine (walk l0 (.slice a0 n0 c0)  W w0).mono fun e W' ⟨he, bel⟩ => ?_
  subst he
  exact ⟨_, rfl, _, _, _, [], _, [], hW', trodAll_mk1 (shut_bool Try.underlying4 _), (trodAll_cons_mk (Below.trod laidOut (by kernel_rfl) (of_decide_eq_true (by kernel_rfl)) k0 bel lt0) trodAll_mk0), rfl, bel.frame _, fun h => by cases h⟩

theorem proved : Rows.PagePlaysSaid :=
  OpenClaim.holds_of_wide 3 Try.f3 rfl rfl rfl rfl rfl rfl rfl ⟨rfl, rfl, rfl, rfl, rfl⟩ rfl rfl rfl rfl rfl (by kernel_rfl) Try.func3 (by kernel_rfl)
    (of_decide_eq_true (by kernel_rfl)) (by unfold Func.isWrapper; first | (rw [if_pos (by decide +kernel)]; kernel_rfl) | (rw [if_neg (by decide +kernel)]; exact ⟨rfl, rfl⟩))
    (fun os started H enc _ => lifted os started H enc)

#print axioms proved
end Go.Proofs.Ytmdhioifdnaajaa.pagePlays
