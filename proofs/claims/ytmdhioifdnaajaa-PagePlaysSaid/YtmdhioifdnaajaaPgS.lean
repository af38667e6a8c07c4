/-
  The document's Keep.
-/
import Derived.Test.YtmdhioifdnaajaaPgR
import Derived.Test.YtmdhioifdnaajaaPgI
set_option linter.unusedVariables false
set_option linter.unusedSimpArgs false
namespace Go.Proofs.Ytmdhioifdnaajaa
open Go.RowKit Go.Shelf

theorem Mt.cut_step (c : Int) (n : Nat) {M : Mt.Bk} {k : Nat} (h : k < M.length) : Mt.cutB c n (M.drop k) = if M[k].1 = c ∧ 4 < n then Mt.cutB c 0 (M.drop (k + 1)) else M[k] :: Mt.cutB c n (M.drop (k + 1)) := by
  rw [List.drop_eq_getElem_cons h]; rfl
theorem Mt.row_step (c : Int) {M : Mt.Bk} {k : Nat} (h : k < M.length) : (Mt.rowB c (M.take (k + 1))).length = (Mt.rowB c (M.take k)).length + if M[k].1 = c then 1 else 0 := by
  rw [List.take_succ_eq_append_getElem h, Mt.rowB_append, List.length_append, Mt.rowB_cons]
  by_cases e : M[k].1 = c
  · rw [if_pos e, if_pos e]; rfl
  · rw [if_neg e, if_neg e]; rfl
/-- One place more in the book's own row. -/
theorem IsRB.push {w : World} {R : Nat} {S : Nat → Prop} {last : Nat} {L : Mt.Bk} (h : IsRB w R S last L) (hL : L.length ≤ 100000) (q : Int × Mt.Pl) {x : Int} (hx : x = ((last + 1 : Nat) : Int)) : ∃ a cp, w.heap[R]? = some (.cells #[.int .i64 (last : Int), .slice a L.length cp] 29 (0, 0)) ∧ R < w.heap.size ∧
    ∃ w1, w.setCell ⟨R, 0, none⟩ (.int .i64 x) = w1 ∧ w1.heap[R]? = some (.cells #[.int .i64 x, .slice a L.length cp] 29 (0, 0)) ∧
    ∃ a2 c2 w2, (∀ ty, (Builtin.append_ #[27, 27] ty #[.slice a L.length cp, .slice (some ⟨w1.heap.size, 0, none⟩) 1 1]).run Try.prog (w1.drew.alloc (.cells #[.int .i64 (q.2.num : Int), .int .i64 q.1, .string q.2.key, .int .i64 q.2.ver, .int .i64 q.2.at'] 55)) = .ok (.slice a2 (L.length + 1) c2) w2) ∧
    w2.heap[R]? = some (.cells #[.int .i64 x, .slice a L.length cp] 29 (0, 0)) ∧
    ∃ S', IsRB (w2.setCell ⟨R, 1, none⟩ (.slice a2 (L.length + 1) c2)) R S' (last + 1) (L ++ [q]) ∧ OnlyP S w (w2.setCell ⟨R, 1, none⟩ (.slice a2 (L.length + 1) c2)) ∧ ∀ k, S' k → S k ∨ w.heap.size ≤ k := by
  obtain ⟨a, cp, g, h1, h2, h3, h4⟩ := h.ex
  have hRl := h.lt R h3
  refine ⟨a, cp, h1, hRl, _, rfl, ?_⟩
  have ho1 : OnlyS [R] w (w.setCell ⟨R, 0, none⟩ (.int .i64 x)) := (OnlyS.refl [R] w).setCell (g := R) (i := 0) (by simp) (.int .i64 x)
  have hB1 := heap_setCell_same w R 0 _ _ (.int .i64 x) h1
  have hs1 : (w.setCell ⟨R, 0, none⟩ (.int .i64 x)).heap.size = w.heap.size := by simp
  generalize w.setCell ⟨R, 0, none⟩ (.int .i64 x) = w1 at *
  refine ⟨hB1, ?_⟩
  replace hB1 : w1.heap[R]? = some (.cells #[.int .i64 x, .slice a L.length cp] 29 (0, 0)) := hB1
  obtain ⟨g1, hr1, hgR, hgS⟩ : ∃ g1, IsRw 55 5 w1.drew g1 (.slice a L.length cp) L.length (rplsC L) ∧ g1 ≠ R ∧ (S g1 ∨ w.heap.size ≤ g1) := by
    by_cases e : g = R
    · rcases h2.notBox h1 rb_ne with e2 | ⟨e1, e2⟩
      · exact absurd e e2
      · exact ⟨w.heap.size, ⟨h2.1, .inl ⟨e1, e2⟩⟩, by omega, .inr (Nat.le_refl _)⟩
    · exact ⟨g, h2.kept (ho1.block g (h.lt g h4) (by simpa using e)), e, .inl h4⟩
  obtain ⟨i0, hi0, hz0, hz1, hz2⟩ := info_parts Try.infoRPlace
  obtain ⟨a2, c2, w2, g2, hrun, hrw2, hg2, ho2⟩ := rw_push (T := 27) Try.underlyingT_RPlacesX hi0 hz0 hz1 hz2 rfl hr1 (rplsC_one _) #[.int .i64 (q.2.num : Int), .int .i64 q.1, .string q.2.key, .int .i64 q.2.ver, .int .i64 q.2.at'] rfl (by simp [Value.oneCell']) (by omega) (by omega)
  have hsa : (w1.drew.alloc (.cells #[.int .i64 (q.2.num : Int), .int .i64 q.1, .string q.2.key, .int .i64 q.2.ver, .int .i64 q.2.at'] 55)).heap.size = w1.heap.size + 1 := by simp
  have hs2 := ho2.size
  rw [hsa] at hs2
  have hold : ∀ k, k < w.heap.size → k ≠ g1 → w2.heap[k]? = w1.heap[k]? := fun k hk hne => (ho2.block k (by rw [hsa]; omega) (by simpa using hne)).trans (((Below.refl w1.heap.size w1).drew.alloc (Nat.le_refl _) _).block k (by omega))
  have hB2 := (hold R hRl hgR.symm).trans hB1
  have hg2l : g2 < w2.heap.size := by
    obtain ⟨_, _, _, _, hb9⟩ := hrw2.hasBlock (by omega)
    exact lt_of_block hb9
  have hg2R : g2 ≠ R := by
    rcases hg2 with rfl | e
    · exact hgR
    · have e2 : g2 = w1.heap.size + 1 := e
      omega
  have hg2S : S g2 ∨ w.heap.size ≤ g2 := by
    rcases hg2 with rfl | e
    · exact hgS
    · have e2 : g2 = w1.heap.size + 1 := e
      exact .inr (by omega)
  have hset := heap_setCell_same w2 R 1 _ _ (.slice a2 (L.length + 1) c2) hB2
  have ho3 := (OnlyS.refl [R] w2).setCell (g := R) (i := 1) (by simp) (.slice a2 (L.length + 1) c2)
  have hs3 : (w2.setCell ⟨R, 1, none⟩ (.slice a2 (L.length + 1) c2)).heap.size = w2.heap.size := by simp
  have hl1 : (L ++ [q]).length = L.length + 1 := by simp
  refine ⟨a2, c2, w2, hrun, hB2, fun k => S k ∨ k = g2, ⟨⟨a2, c2, g2, ?_, ?_, .inl h3, .inr rfl⟩, fun k hk => ?_⟩, ?_, fun k hk => ?_⟩
  · rw [hl1, ← hx]; exact hset
  · rw [hl1, rplsC_append]
    exact hrw2.kept (heap_setCell_other _ _ _ _ hg2R)
  · rw [hs3]
    rcases hk with hk | rfl
    · have := h.lt k hk; omega
    · exact hg2l
  · refine ⟨ho3.os.trans (ho2.os.trans ho1.os), ho3.tape.trans (ho2.tape.trans ?_), ho3.output.trans (ho2.output.trans ho1.output), by omega, fun k hk hS => ?_⟩
    · exact ho1.tape
    · have hkR : k ≠ R := fun e => hS (by rw [e]; exact h3)
      have hkg : k ≠ g1 := fun e => by rcases hgS with h9 | h9; exact hS (by rw [e]; exact h9); omega
      exact (ho3.block k (by omega) (by simpa using hkR)).trans ((hold k hk hkg).trans (ho1.block k hk (by simpa using hkR)))
  · rcases hk with hk | rfl
    · exact .inl hk
    · exact hg2S
set_option maxRecDepth 100000 in
set_option maxHeartbeats 2000000 in
theorem rkeep26_any {w : World} {R : Nat} {S : Nat → Prop} {last : Nat} {L : Mt.Bk} (c ver at' : Int) (key : ByteArray) (hL : L.length ≤ 100000) (hlast : last ≤ 100000) (h : IsRB w R S last L) :
    Calls Try.prog 11 #[.pointer (some ⟨R, 0, none⟩), .int .i64 c, .string key, .int .i64 ver, .int .i64 at'] w fun e w' => e = .returned (.string (ck (last + 1))) ∧ ∃ S', IsRB w' R S' (last + 1) (Mt.keepB c ⟨last + 1, key, ver, at'⟩ L) ∧ OnlyP S w w' ∧ ∀ k, S' k → S k ∨ w.heap.size ≤ k := by
  obtain ⟨x, hx⟩ : ∃ x : Int, ((last + 1 : Nat) : Int) = x := ⟨_, rfl⟩
  obtain ⟨a, cp, h1, hRl, w1, hw1, hB1, a2, c2, w2, hrun, hB2, S2, hRB, hOP, hS2⟩ := h.push hL (c, ⟨last + 1, key, ver, at'⟩) hx.symm
  have wl : wrap64 ((last : Int) + 1) = x := by rw [← hx]; unfold wrap64; omega
  have wu : IntKind.u64.wrap x = x := by rw [← hx]; exact wrap_u64 (by omega)
  have HPT : Hid (∀ u : World, Calls Try.prog 19 #[.int .u64 x, .int .i64 8] u fun e w' => e = .returned (.string (ck (last + 1))) ∧ Below u.heap.size u w') := Lib.hid (fun u => by
    have := rput_yes (last + 1) 8 u (by omega) (by omega)
    rw [hx] at this
    exact this)
  simp only [hx] at hrun
  obtain ⟨M, hM⟩ : ∃ M, L ++ [((c, ⟨last + 1, key, ver, at'⟩) : Int × Mt.Pl)] = M := ⟨_, rfl⟩
  have hKB : Mt.keepB c ⟨last + 1, key, ver, at'⟩ L = Mt.cutB c (Mt.rowB c M).length M := by
    unfold Mt.keepB; rw [hM, ← hM, Mt.rowB_append, Mt.rowB_cons, if_pos rfl, List.length_append]; rfl
  have hml : M.length = L.length + 1 := by rw [← hM]; simp
  rw [hM] at hRB
  rw [hKB]
  have HXX := Lib.hid hx
  have HRB := Lib.hid hRB
  have HOP := Lib.hid hOP
  have HS2 := Lib.hid hS2
  have HLE : Hid (M.length ≤ 100001) := Lib.hid (by omega)
  obtain ⟨⟨x0, x1⟩, -⟩ := box2G h1
  have xf0 := frozen_of_row w R 0 _ _ h1
  obtain ⟨⟨y0, y1⟩, -⟩ := box2G hB1
  have yf1 := frozen_of_row w1 R 1 _ _ hB1
  obtain ⟨⟨z0, z1⟩, -⟩ := box2G hB2
  have zf1 := frozen_of_row w2 R 1 _ _ hB2
  have hq := (((Below.refl w1.heap.size w1).alloc (Nat.le_refl _) (.cells #[.int .i64 x, .int .i64 c, .string key, .int .i64 ver, .int .i64 at'] 55)).drew.block R (lt_of_block hB1)).trans hB1
  obtain ⟨⟨q0, q1⟩, -⟩ := box2G hq
  have qf1 := frozen_of_row _ R 1 _ _ hq
  have hmn : M.length = L.length + 1 := hml
  obtain ⟨n, hn⟩ : ∃ n, L.length = n := ⟨_, rfl⟩
  rw [hn] at *
  clear h hL hlast hRB hOP hS2 hKB hM hB1 hB2 hq h1 hx hml
  have HN := Lib.hid hmn
  clear hmn
  go_enter Try.func11, Try.ntmps11
  go_upto_region 2 with fail
  clear hw1 x0 x1 xf0
  rw [wl]
  go_cut [] from 24 to 41 (fun wx => Hid (IsRB wx R S2 (last + 1) M ∧ OnlyP S w wx))
  case first =>
    go_region_law (first | (refine step_append_eq (w := (w1.alloc (.cells #[.int .i64 x, .int .i64 c, .string key, .int .i64 ver, .int .i64 at'] 55)).drew) rfl (.tmp 28) (.tmp 38) 27 27 rfl _ _ (by rfl) (by rfl) hrun ?_))
    all_goals
      go_wp2_with fail
      go_meet
      case rel => exact Lib.hid ⟨HRB.out, HOP.out⟩
  case rest =>
  obtain ⟨hRB, hOP⟩ := hcut.out
  have HOPc := Lib.hid hOP
  have HRBc := Lib.hid hRB
  obtain ⟨a, cp, g, h1, h2, h3, h4⟩ := hRB.ex
  rw [HXX.out] at h1
  have hRl := hRB.lt R h3
  have hgl := hRB.lt g h4
  obtain ⟨⟨x0, x1⟩, xf⟩ := box2G h1
  have HRW := Lib.hid h2
  have HBX : Hid (∀ u : World, Below wc.heap.size wc u → u.heap[R]? = some (.cells #[.int .i64 x, .slice a M.length cp] 29 (0, 0)) ∧ u.heap[g]? = wc.heap[g]?) := Lib.hid (fun u hu => ⟨(hu.block R hRl).trans h1, hu.block g hgl⟩)
  obtain ⟨n, hn⟩ : ∃ n, M.length = n := ⟨_, rfl⟩
  have HN2 := Lib.hid hn
  rw [hn] at x1
  clear hRB hOP h1 h2 h3 h4 hgl hn hcut HRB HOP hrun y0 y1 z0 z1 q0 q1 yf1 zf1 qf1
  have HR0 := Lib.hid (Below.refl wc.heap.size wc)
  go_upto_region 4 with fail
  go_wp2_with fail
  go_loopw [11, 47] (fun nv kv wr => ∃ (k : Nat), k ≤ n ∧ kv = .int .i64 (k : Int) ∧ nv = .int .i64 ((Mt.rowB c (M.take k)).length : Int) ∧ Hid (Below wc.heap.size wc wr)) (fun _ kv _ => n - (intOf kv).toNat)
  case atStart => exact ⟨0, Nat.zero_le _, rfl, rfl, HR0⟩
  case round =>
    obtain ⟨k, hk, rfl, rfl, HB⟩ := hrel
    clear x0 x1 xf
    by_cases hlt : k < n
    · skip
      have hkl : k < M.length := by rw [HN2.out]; exact hlt
      obtain ⟨hb1, hb2⟩ := HBX.out wr HB.out
      obtain ⟨off, e8, hcell⟩ := HRW.out.rplace hkl
      obtain ⟨y0, y1, y2, y3, y4⟩ := hcell wr hb2
      rw [e8]
      obtain ⟨wx, hwx⟩ : ∃ u, wr.alloc (.cells #[.int .i64 (M[k].2.num : Int), .int .i64 M[k].1, .string M[k].2.key, .int .i64 M[k].2.ver, .int .i64 M[k].2.at'] 55) = u := ⟨_, rfl⟩
      have hba : Below wr.heap.size wr wx := by rw [← hwx]; exact (Below.refl _ wr).alloc (Nat.le_refl _) _
      have hka : wx.heap[wr.heap.size]? = some (.cells #[.int .i64 (M[k].2.num : Int), .int .i64 M[k].1, .string M[k].2.key, .int .i64 M[k].2.ver, .int .i64 M[k].2.at'] 55) := by rw [← hwx]; exact heap_alloc_new wr _
      have HST := Lib.hid (Mt.row_step c hkl)
      have hck : (Mt.rowB c (M.take k)).length ≤ 100001 := by unfold Mt.rowB; rw [List.length_map]; have h9 := List.length_filter_le (fun q : Int × Mt.Pl => decide (q.1 = c)) (M.take k); rw [List.length_take] at h9; have := HLE.out; omega
      obtain ⟨ct, hct⟩ : ∃ ct, (Mt.rowB c (M.take k)).length = ct := ⟨_, rfl⟩
      rw [hct] at HST hck ⊢
      have wt : wrap64 ((ct : Int) + 1) = ((ct + 1 : Nat) : Int) := by unfold wrap64; omega
      obtain ⟨⟨pn, pk, pv, pa⟩, hq⟩ : ∃ p, M[k].2 = p := ⟨_, rfl⟩
      obtain ⟨pc, hc⟩ : ∃ p, M[k].1 = p := ⟨_, rfl⟩
      have hqq : M[k] = (pc, ⟨pn, pk, pv, pa⟩) := by rw [← hq, ← hc]
      rw [hqq] at HST hka hwx y0 y1 y2 y3 y4
      simp only at HST hka hwx y0 y1 y2 y3 y4
      have z0 := cell_of_row wx wr.heap.size 0 _ _ _ hka
      have z1 := cell_of_row wx wr.heap.size 1 _ _ _ hka
      have z2 := cell_of_row wx wr.heap.size 2 _ _ _ hka
      have z3 := cell_of_row wx wr.heap.size 3 _ _ _ hka
      have z4 := cell_of_row wx wr.heap.size 4 _ _ _ hka
      simp only [List.getElem?_toArray, List.getElem?_cons_zero, List.getElem?_cons_succ] at z0 z1 z2 z3 z4
      have HBW := Lib.hid (HB.out.trans (hba.mono HB.out.size))
      have d1 : decide ((k : Int) < (n : Int)) = true := decide_eq_true (Int.ofNat_lt.2 hlt)
      have d2 : decide (k < n) = true := decide_eq_true hlt
      have k0 : (0 : Int) ≤ (k : Int) := Int.natCast_nonneg k
      have k1 : (k : Int) < (n : Int) := Int.ofNat_lt.2 hlt
      have wk : wrap64 ((k : Int) + 1) = ((k + 1 : Nat) : Int) := by unfold wrap64; have := HLE.out; have := HN2.out; omega
      clear hb1 hb2 hcell hba hka hq hc hqq hkl e8
      clear hck hct
      by_cases hcc : pc = c
      · subst hcc
        have hST : (Mt.rowB pc (M.take (k + 1))).length = ct + 1 := by have := HST.out; rw [if_pos rfl] at this; exact this
        have HST' := Lib.hid hST
        clear hST HST
        go_wp2_with fail
        go_roundw
        case rel => exact ⟨k + 1, hlt, by first | rfl | go_num, by rw [HST'.out]; first | rfl | go_num, HBW⟩
        case measure => first | exact meas_stepB hlt | (rw [wk]; exact meas_stepB hlt)
      · have hne : (pc == c) = false := by simpa using hcc
        have hST : (Mt.rowB c (M.take (k + 1))).length = ct := by have := HST.out; rw [if_neg hcc] at this; exact this
        have HST' := Lib.hid hST
        clear hST HST hcc
        go_wp2_with fail
        go_roundw
        case rel => exact ⟨k + 1, hlt, by first | rfl | go_num, by rw [HST'.out], HBW⟩
        case measure => first | exact meas_stepB hlt | (rw [wk]; exact meas_stepB hlt)
    · obtain rfl : k = n := by omega
      have d1 : decide ((k : Int) < (k : Int)) = false := decide_eq_false (by omega)
      have d2 : decide (k < k) = false := decide_eq_false (by omega)
      have htk : M.take k = M := List.take_of_length_le (by rw [HN2.out]; exact Nat.le_refl _)
      rw [htk]
      obtain ⟨n0, hn0⟩ : ∃ n0, (Mt.rowB c M).length = n0 := ⟨_, rfl⟩
      rw [hn0]
      obtain ⟨G, hG⟩ : ∃ G, Mt.cutB c n0 M = G := ⟨_, rfl⟩
      have HG := Lib.hid hG
      obtain ⟨hb1, hb2⟩ := HBX.out wr HB.out
      obtain ⟨⟨x0, x1⟩, xf⟩ := box2G hb1
      rw [HN2.out] at x1
      clear hG hb1 hb2 htk
      have HPOST : Hid (∀ u, IsRB u R S2 (last + 1) M → True) := Lib.hid (fun _ _ => trivial)
      clear HPOST
      go_wp2_with fail
      go_loopw [11, 14, 63] (fun nv sv kv wr => ∃ (k2 : Nat) (a3 : Option Addr) (m c3 nk : Nat) (X : Mt.Bk), k2 ≤ k ∧ kv = .int .i64 (k2 : Int) ∧ sv = .slice a3 m c3 ∧ nv = .int .i64 (nk : Int) ∧ Hid (X ++ Mt.cutB c nk (M.drop k2) = G) ∧ Hid (IsOwn 55 5 wc.heap.size wr (.slice a3 m c3) X.length (rplsC X)) ∧ Hid (X.length ≤ k2) ∧ Hid (Below wc.heap.size wc wr)) (fun _ _ kv _ => k - (intOf kv).toNat)
      case atStart => exact ⟨0, none, 0, 0, n0, [], Nat.zero_le _, rfl, rfl, rfl, HG, Lib.hid (IsOwn.nil _ _ _ _), Lib.hid (Nat.zero_le _), HB⟩
      case round =>
      obtain ⟨k2, a3, m, c3, nk, X, hk2, rfl, rfl, rfl, HGX, HO, HXK, HB2⟩ := hrel
      obtain ⟨rfl⟩ : m = X.length := by
        obtain ⟨_, _, e⟩ := HO.out.form
        injection e
      clear x0 x1 xf d1 d2
      by_cases hlt2 : k2 < k
      · skip
        have hkl : k2 < M.length := by rw [HN2.out]; exact hlt2
        obtain ⟨hb1, hb2⟩ := HBX.out wr HB2.out
        obtain ⟨off, e8, hcell⟩ := HRW.out.rplace hkl
        obtain ⟨y0, y1, y2, y3, y4⟩ := hcell wr hb2
        rw [e8]
        have hle : X.length ≤ 200000 := Nat.le_trans HXK.out (Nat.le_trans (Nat.le_of_lt hkl) (Nat.le_trans HLE.out (by decide)))
        obtain ⟨wx, hwx⟩ : ∃ u, wr.alloc (.cells #[.int .i64 (M[k2].2.num : Int), .int .i64 M[k2].1, .string M[k2].2.key, .int .i64 M[k2].2.ver, .int .i64 M[k2].2.at'] 55) = u := ⟨_, rfl⟩
        have hba : Below wr.heap.size wr wx := by rw [← hwx]; exact (Below.refl _ wr).alloc (Nat.le_refl _) _
        have hka : wx.heap[wr.heap.size]? = some (.cells #[.int .i64 (M[k2].2.num : Int), .int .i64 M[k2].1, .string M[k2].2.key, .int .i64 M[k2].2.ver, .int .i64 M[k2].2.at'] 55) := by rw [← hwx]; exact heap_alloc_new wr _
        have HPU := Lib.hid (rpl_push HO.out hba HB2.out.size M[k2] hle)
        have HST := Lib.hid (Mt.cut_step c nk hkl)
        obtain ⟨⟨pn, pk, pv, pa⟩, hq⟩ : ∃ p, M[k2].2 = p := ⟨_, rfl⟩
        obtain ⟨pc, hc⟩ : ∃ p, M[k2].1 = p := ⟨_, rfl⟩
        have hqq : M[k2] = (pc, ⟨pn, pk, pv, pa⟩) := by rw [← hq, ← hc]
        rw [hqq] at HST HPU hka hwx y0 y1 y2 y3 y4
        simp only at HST HPU hka hwx y0 y1 y2 y3 y4
        have z0 := cell_of_row wx wr.heap.size 0 _ _ _ hka
        have z1 := cell_of_row wx wr.heap.size 1 _ _ _ hka
        have z2 := cell_of_row wx wr.heap.size 2 _ _ _ hka
        have z3 := cell_of_row wx wr.heap.size 3 _ _ _ hka
        have z4 := cell_of_row wx wr.heap.size 4 _ _ _ hka
        simp only [List.getElem?_toArray, List.getElem?_cons_zero, List.getElem?_cons_succ] at z0 z1 z2 z3 z4
        have HBW := Lib.hid (HB2.out.trans (hba.mono HB2.out.size))
        have HOW := Lib.hid (HO.out.below hba)
        have d1 : decide ((k2 : Int) < (k : Int)) = true := decide_eq_true (Int.ofNat_lt.2 hlt2)
        have d2 : decide (k2 < k) = true := decide_eq_true hlt2
        have k0 : (0 : Int) ≤ (k2 : Int) := Int.natCast_nonneg k2
        have k1 : (k2 : Int) < (k : Int) := Int.ofNat_lt.2 hlt2
        have wk : wrap64 ((k2 : Int) + 1) = ((k2 + 1 : Nat) : Int) := by unfold wrap64; have := HLE.out; have := HN2.out; omega
        obtain ⟨m, hm⟩ : ∃ m, X.length = m := ⟨_, rfl⟩
        have HXM := Lib.hid hm
        rw [hm] at HPU ⊢
        clear hb1 hb2 hcell hba hka hq hc hqq hkl e8 hle hm
        by_cases hcc : pc = c
        · subst hcc
          by_cases h4 : 4 < nk
          · have h4' : decide ((4 : Int) < (nk : Int)) = true := decide_eq_true (by omega)
            have HG' : Hid (X ++ Mt.cutB pc 0 (M.drop (k2 + 1)) = G) := Lib.hid (by have h9 := HST.out; rw [if_pos ⟨rfl, h4⟩] at h9; rw [← h9]; exact HGX.out)
            have h4'' : (4 : Int) < (nk : Int) := by omega
            have HXK' : Hid (X.length ≤ k2 + 1) := Lib.hid (Nat.le_succ_of_le HXK.out)
            clear HST h4
            go_wp2_with fail
            go_roundw
            case rel =>
              refine ⟨k2 + 1, a3, m, c3, 0, X, hlt2, by first | rfl | go_num, rfl, rfl, HG', Lib.hid ?_, HXK', HBW⟩
              have := HOW.out; rwa [HXM.out] at this ⊢
            case measure => first | exact meas_stepB hlt2 | (rw [wk]; exact meas_stepB hlt2)
          · have h4' : decide ((4 : Int) < (nk : Int)) = false := decide_eq_false (by omega)
            have h4'' : ¬ (4 : Int) < (nk : Int) := by omega
            have HG' : Hid ((X ++ [(pc, ⟨pn, pk, pv, pa⟩)]) ++ Mt.cutB pc nk (M.drop (k2 + 1)) = G) := Lib.hid (by have h9 := HST.out; rw [if_neg (fun e => h4 e.2)] at h9; rw [List.append_assoc, List.singleton_append, ← h9]; exact HGX.out)
            have HXK' : Hid ((X ++ [((pc, ⟨pn, pk, pv, pa⟩) : Int × Mt.Pl)]).length ≤ k2 + 1) := Lib.hid (by rw [List.length_append]; exact Nat.succ_le_succ HXK.out)
            clear HST h4
            obtain ⟨a3', c3', w', hrun, hown, hb'⟩ := HPU.out
            have HOW' := Lib.hid hown
            have HB' := Lib.hid (HBW.out.trans hb')
            clear hown hb'
            go_wp2_with (refine wpList_append_run rfl (.tmp 75) (.tmp 77) 27 27 rfl (.slice a3 m c3) (.slice (some ⟨wx.heap.size, 0, none⟩) 1 1) rfl rfl hrun ?_; clear hrun)
            go_roundw
            case rel =>
              refine ⟨k2 + 1, a3', m + 1, c3', nk, X ++ [(pc, ⟨pn, pk, pv, pa⟩)], hlt2, by first | rfl | go_num, rfl, rfl, HG', Lib.hid ?_, HXK', HB'⟩
              have := HOW'.out
              rw [List.length_append, HXM.out] at this ⊢
              exact this
            case measure => first | exact meas_stepB hlt2 | (rw [wk]; exact meas_stepB hlt2)
        · have hne : (pc == c) = false := by simpa using hcc
          have HG' : Hid ((X ++ [(pc, ⟨pn, pk, pv, pa⟩)]) ++ Mt.cutB c nk (M.drop (k2 + 1)) = G) := Lib.hid (by have h9 := HST.out; rw [if_neg (fun e => hcc e.1)] at h9; rw [List.append_assoc, List.singleton_append, ← h9]; exact HGX.out)
          have HXK' : Hid ((X ++ [((pc, ⟨pn, pk, pv, pa⟩) : Int × Mt.Pl)]).length ≤ k2 + 1) := Lib.hid (by rw [List.length_append]; exact Nat.succ_le_succ HXK.out)
          clear HST hcc
          obtain ⟨a3', c3', w', hrun, hown, hb'⟩ := HPU.out
          have HOW' := Lib.hid hown
          have HB' := Lib.hid (HBW.out.trans hb')
          clear hown hb'
          go_wp2_with (refine wpList_append_run rfl (.tmp 75) (.tmp 77) 27 27 rfl (.slice a3 m c3) (.slice (some ⟨wx.heap.size, 0, none⟩) 1 1) rfl rfl hrun ?_; clear hrun)
          go_roundw
          case rel =>
            refine ⟨k2 + 1, a3', m + 1, c3', nk, X ++ [(pc, ⟨pn, pk, pv, pa⟩)], hlt2, by first | rfl | go_num, rfl, rfl, HG', Lib.hid ?_, HXK', HB'⟩
            have := HOW'.out
            rw [List.length_append, HXM.out] at this ⊢
            exact this
          case measure => first | exact meas_stepB hlt2 | (rw [wk]; exact meas_stepB hlt2)
      · obtain rfl : k2 = k := Nat.le_antisymm hk2 (Nat.le_of_not_lt hlt2)
        have d1 : decide ((k2 : Int) < (k2 : Int)) = false := decide_eq_false (Int.lt_irrefl _)
        have d2 : decide (k2 < k2) = false := decide_eq_false (Nat.lt_irrefl _)
        have hXG : X = G := by have h9 := HGX.out; rw [List.drop_of_length_le (by rw [HN2.out]; exact Nat.le_refl _)] at h9; simpa [Mt.cutB] using h9
        subst hXG
        obtain ⟨hb1, hb2⟩ := HBX.out wr HB2.out
        obtain ⟨⟨x0, x1⟩, xf⟩ := box2G hb1
        rw [HN2.out] at x1
        have xf1 := frozen_of_row wr R 1 _ _ hb1
        obtain ⟨S3, hr3, hp3, hs3⟩ := HRBc.out.store (belowToP (S := S2) HB2.out) (last2 := last + 1) (by rw [HXX.out]; exact hb1) HO.out
        have HFIN : Hid (∀ u, Below (wr.setCell ⟨R, 1, none⟩ (.slice a3 X.length c3)).heap.size (wr.setCell ⟨R, 1, none⟩ (.slice a3 X.length c3)) u → ∃ S', IsRB u R S' (last + 1) X ∧ OnlyP S w u ∧ ∀ k, S' k → S k ∨ w.heap.size ≤ k) := Lib.hid (fun u hu => ⟨S3, hr3.other (T := fun _ => False) (belowToP hu) (fun _ _ h => h), (HOPc.out.trans hp3 HS2.out).trans (belowToP (S := fun _ => False) hu) (fun _ h => h.elim), fun k hk => by
          rcases hs3 k hk with h9 | h9
          · exact HS2.out k h9
          · exact .inr (Nat.le_trans HOPc.out.size h9)⟩)
        obtain ⟨⟨s0, s1⟩, sf⟩ := box2G (heap_setCell_same wr R 1 _ _ (.slice a3 X.length c3) hb1)
        clear hb1 hb2 hr3 hp3 hs3
        go_wp2_with fail
        refine (HPT.out _).mono ?_
        rintro e w9 ⟨rfl, hb⟩
        have HF : Hid (∃ S', IsRB w9 R S' (last + 1) (Mt.cutB c (Mt.rowB c M).length M) ∧ OnlyP S w w9 ∧ ∀ k, S' k → S k ∨ w.heap.size ≤ k) := Lib.hid (by rw [hn0, HG.out]; exact HFIN.out w9 hb)
        clear hb HFIN
        go_wp2_with fail
        all_goals (go_ret; exact ⟨rfl, HF.out⟩)
end Go.Proofs.Ytmdhioifdnaajaa
