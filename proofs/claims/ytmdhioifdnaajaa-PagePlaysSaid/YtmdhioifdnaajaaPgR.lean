/-
  The document's Take.
-/
import Derived.Test.YtmdhioifdnaajaaPgQ
import Derived.Test.YtmdhioifdnaajaaPutB
set_option linter.unusedVariables false
set_option linter.unusedSimpArgs false
namespace Go.Proofs.Ytmdhioifdnaajaa
open Go.RowKit Go.Shelf

/-- One place's answer. -/
def Mt.tookS (m good : Mt.Pl → Bool) (c : Int) (r : Int × Bool) (q : Int × Mt.Pl) : Int × Bool := if (decide (q.1 = c) && m q.2) = true then (if good q.2 = true then (q.2.at', true) else r) else r
theorem Mt.tookB_fold (m good : Mt.Pl → Bool) (c : Int) (L : Mt.Bk) : Mt.tookB m good c L = L.foldl (Mt.tookS m good c) (0, false) := rfl
theorem Mt.tookB_step (m good : Mt.Pl → Bool) (c : Int) {L : Mt.Bk} {k : Nat} (h : k < L.length) : Mt.tookB m good c (L.take (k + 1)) = Mt.tookS m good c (Mt.tookB m good c (L.take k)) L[k] := by
  rw [Mt.tookB_fold, Mt.tookB_fold, List.take_succ_eq_append_getElem h, List.foldl_append]; rfl
theorem wrap_u64 {n : Nat} (h : n ≤ 1000000) : IntKind.u64.wrap (n : Int) = (n : Int) := by simp [IntKind.wrap, IntKind.bits, IntKind.signed]; omega
set_option maxRecDepth 100000 in
set_option maxHeartbeats 2000000 in
theorem rtake26_any {w : World} {R : Nat} {S : Nat → Prop} {last : Nat} {L : Mt.Bk} (c ver : Int) (s key : ByteArray) (hL : L.length ≤ 100000) (hnum : ∀ q ∈ L, q.2.num ≤ 1000000) (h : IsRB w R S last L) :
    Calls Try.prog 7 #[.pointer (some ⟨R, 0, none⟩), .int .i64 c, .string s, .string key, .int .i64 ver] w fun e w' =>
      e = .returned (.tuple #[.int .i64 (Mt.tookB (fun p => decide (ck p.num = s)) (fun p => decide (p.key = key) && decide (p.ver = ver)) c L).1, .bool (Mt.tookB (fun p => decide (ck p.num = s)) (fun p => decide (p.key = key) && decide (p.ver = ver)) c L).2]) ∧
      ∃ S', IsRB w' R S' last (Mt.takeB (fun p => decide (ck p.num = s)) c L) ∧ OnlyP S w w' ∧ ∀ k, S' k → S k ∨ w.heap.size ≤ k := by
  obtain ⟨mf, hmf⟩ : ∃ mf : Mt.Pl → Bool, (fun p => decide (ck p.num = s)) = mf := ⟨_, rfl⟩
  obtain ⟨gf, hgf⟩ : ∃ gf : Mt.Pl → Bool, (fun p => decide (p.key = key) && decide (p.ver = ver)) = gf := ⟨_, rfl⟩
  rw [hmf, hgf]
  have HMF : Hid (∀ p, mf p = decide (ck p.num = s)) := Lib.hid (fun p => by rw [← hmf])
  have HGF : Hid (∀ p, gf p = (decide (p.key = key) && decide (p.ver = ver))) := Lib.hid (fun p => by rw [← hgf])
  clear hmf hgf
  obtain ⟨a, cp, g, h1, h2, h3, h4⟩ := h.ex
  have hRl := h.lt R h3
  have hgl := h.lt g h4
  obtain ⟨⟨x0, x1⟩, xf⟩ := box2G h1
  have HRW := Lib.hid h2
  have HBK := Lib.hid h
  have HBX : Hid (∀ u : World, Below w.heap.size w u → u.heap[R]? = some (.cells #[.int .i64 (last : Int), .slice a L.length cp] 29 (0, 0)) ∧ u.heap[g]? = w.heap[g]?) := Lib.hid (fun u hu => ⟨(hu.block R hRl).trans h1, hu.block g hgl⟩)
  have HLE := Lib.hid hL
  have HNUM := Lib.hid hnum
  obtain ⟨n, hn⟩ : ∃ n, L.length = n := ⟨_, rfl⟩
  have HN := Lib.hid hn
  rw [hn] at x1
  clear h h1 h2 h3 h4 hgl hL hn hnum
  have HR0 := Lib.hid (Below.refl w.heap.size w)
  go_enter Try.func7, Try.ntmps7
  go_wp2_with fail
  go_loopw [12, 13, 14, 22] (fun sv av bv kv wr => ∃ (k : Nat) (a2 : Option Addr) (m c2 : Nat) (av0 : Int) (bv0 : Bool), k ≤ n ∧ kv = .int .i64 (k : Int) ∧ sv = .slice a2 m c2 ∧ av = .int .i64 av0 ∧ bv = .bool bv0 ∧ Hid (Mt.tookB mf gf c (L.take k) = (av0, bv0)) ∧ Hid (IsOwn 55 5 w.heap.size wr (.slice a2 m c2) (Mt.takeB mf c (L.take k)).length (rplsC (Mt.takeB mf c (L.take k)))) ∧ Hid (Below w.heap.size w wr)) (fun _ _ _ kv _ => n - (intOf kv).toNat)
  case atStart => exact ⟨0, none, 0, 0, 0, false, Nat.zero_le _, rfl, rfl, rfl, rfl, Lib.hid rfl, Lib.hid (IsOwn.nil _ _ _ _), HR0⟩
  case round =>
    obtain ⟨k, a2, m, c2, av0, bv0, hk, rfl, rfl, rfl, rfl, HT, HO, HB⟩ := hrel
    obtain ⟨rfl⟩ : m = (Mt.takeB mf c (L.take k)).length := by
      obtain ⟨_, _, e⟩ := HO.out.form
      injection e
    clear x0 x1 xf
    by_cases hlt : k < n
    · have hkl : k < L.length := by rw [HN.out]; exact hlt
      obtain ⟨hb1, hb2⟩ := HBX.out wr HB.out
      obtain ⟨off, rfl, hcell⟩ := HRW.out.rplace hkl
      obtain ⟨y0, y1, y2, y3, y4⟩ := hcell wr hb2
      have HFS := Lib.hid (Mt.filter_stepB (fun q : Int × Mt.Pl => !(decide (q.1 = c) && mf q.2)) hkl)
      have HTS := Lib.hid (Mt.tookB_step mf gf c hkl)
      rw [HT.out] at HTS
      have hle : (Mt.takeB mf c (L.take k)).length ≤ 200000 := by have h1 := List.length_filter_le (fun q : Int × Mt.Pl => !(decide (q.1 = c) && mf q.2)) (L.take k); rw [List.length_take] at h1; have := HLE.out; unfold Mt.takeB; omega
      have hnk := HNUM.out _ (List.getElem_mem hkl)
      obtain ⟨wx, hwx⟩ : ∃ u, wr.alloc (.cells #[.int .i64 (L[k].2.num : Int), .int .i64 L[k].1, .string L[k].2.key, .int .i64 L[k].2.ver, .int .i64 L[k].2.at'] 55) = u := ⟨_, rfl⟩
      have hba : Below wr.heap.size wr wx := by rw [← hwx]; exact (Below.refl _ wr).alloc (Nat.le_refl _) _
      have hka : wx.heap[wr.heap.size]? = some (.cells #[.int .i64 (L[k].2.num : Int), .int .i64 L[k].1, .string L[k].2.key, .int .i64 L[k].2.ver, .int .i64 L[k].2.at'] 55) := by rw [← hwx]; exact heap_alloc_new wr _
      have HPU : Hid (∀ u, Below wr.heap.size wr u → _) := Lib.hid (fun u hu => rpl_push HO.out hu HB.out.size L[k] hle)
      obtain ⟨⟨pn, pk, pv, pa⟩, hq⟩ : ∃ p, L[k].2 = p := ⟨_, rfl⟩
      obtain ⟨pc, hc⟩ : ∃ p, L[k].1 = p := ⟨_, rfl⟩
      have hqq : L[k] = (pc, ⟨pn, pk, pv, pa⟩) := by rw [← hq, ← hc]
      rw [hqq] at HFS HTS HPU hka hwx y0 y1 y2 y3 y4 hnk
      simp only at HFS HTS HPU hka hwx y0 y1 y2 y3 y4 hnk
      have HZ : Hid (∀ u, Below wx.heap.size wx u → (u.cell? ⟨wr.heap.size, 0, none⟩ = some (.int .i64 (pn : Int)) ∧ u.cell? ⟨wr.heap.size, 1, none⟩ = some (.int .i64 pc) ∧ u.cell? ⟨wr.heap.size, 2, none⟩ = some (.string pk) ∧ u.cell? ⟨wr.heap.size, 3, none⟩ = some (.int .i64 pv) ∧ u.cell? ⟨wr.heap.size, 4, none⟩ = some (.int .i64 pa)) ∧ Below wr.heap.size wr u ∧ Below w.heap.size w u) := Lib.hid (fun u hu => by
        have hub := (hu.block _ (lt_of_block hka)).trans hka
        have hwu := hba.trans (hu.mono hba.size)
        exact ⟨⟨cell_of_row u wr.heap.size 0 _ _ _ hub, cell_of_row u wr.heap.size 1 _ _ _ hub, cell_of_row u wr.heap.size 2 _ _ _ hub, cell_of_row u wr.heap.size 3 _ _ _ hub, cell_of_row u wr.heap.size 4 _ _ _ hub⟩, hwu, HB.out.trans (hwu.mono HB.out.size)⟩)
      obtain ⟨⟨z0, z1, z2, z3, z4⟩, -, -⟩ := HZ.out wx (Below.refl _ _)
      have HOW : Hid (∀ u, Below wr.heap.size wr u → _) := Lib.hid (fun u hu => HO.out.below hu)
      have HRX := Lib.hid (Below.refl wx.heap.size wx)
      unfold Mt.takeB at HO HPU HOW ⊢
      obtain ⟨X, hX⟩ : ∃ X, (L.take k).filter (fun q : Int × Mt.Pl => !(decide (q.1 = c) && mf q.2)) = X := ⟨_, rfl⟩
      rw [hX] at HO HFS HPU HOW
      rw [hX]
      obtain ⟨m, hm⟩ : ∃ m, X.length = m := ⟨_, rfl⟩
      have HXM := Lib.hid hm
      rw [hm] at HPU ⊢
      have d1 : decide ((k : Int) < (n : Int)) = true := decide_eq_true (by omega)
      have d2 : decide (k < n) = true := decide_eq_true hlt
      have k0 : (0 : Int) ≤ (k : Int) := by omega
      have k1 : (k : Int) < (n : Int) := by omega
      have wk : wrap64 ((k : Int) + 1) = ((k + 1 : Nat) : Int) := by unfold wrap64; have := HLE.out; have := HN.out; omega
      have wu := wrap_u64 hnk
      have HCK := Lib.hid (fun u => rput_yes pn 8 u (by omega) (by omega))
      clear hb1 hb2 hcell hba hka hle hq hc hqq hX hm hkl hnk
      by_cases hcc : pc = c
      · subst hcc
        go_wp2_with fail
        refine (HCK.out _).mono ?_
        rintro e w2 ⟨rfl, hb⟩
        clear z0 z1 z2 z3 z4
        obtain ⟨⟨z0, z1, z2, z3, z4⟩, hwu, hww⟩ := HZ.out w2 hb
        have HWU := Lib.hid hwu
        have HWW := Lib.hid hww
        clear hb hwu hww
        by_cases hck : strOfNums (Mt.be pn 8) = s
        · have hq1 : (s.toList == s.toList) = true := by simp
          rw [hck]
          have hmt : mf ⟨pn, pk, pv, pa⟩ = true := by rw [HMF.out]; exact decide_eq_true hck
          by_cases hkv : pk = key ∧ pv = ver
          · obtain ⟨rfl, rfl⟩ := hkv
            have hgt : gf ⟨pn, pk, pv, pa⟩ = true := by rw [HGF.out]; simp
            have HTS' : Hid (Mt.tookB mf gf pc (L.take (k + 1)) = (pa, true)) := Lib.hid (by rw [HTS.out]; unfold Mt.tookS; simp [hmt, hgt])
            have HFS' : Hid (List.filter (fun q : Int × Mt.Pl => !(decide (q.1 = pc) && mf q.2)) (L.take (k + 1)) = X) := Lib.hid (by rw [HFS.out]; simp [hmt])
            clear hmt hgt HTS HFS hck
            go_wp2_with fail
            go_roundw
            case rel =>
              refine ⟨k + 1, a2, m, c2, _, _, by omega, by first | rfl | go_num, rfl, rfl, rfl, HTS', Lib.hid ?_, HWW⟩
              rw [HFS'.out]
              have := HOW.out w2 HWU.out
              rwa [HXM.out] at this ⊢
            case measure => first | exact meas_stepB hlt | (rw [wk]; exact meas_stepB hlt)
          · have hgf : gf ⟨pn, pk, pv, pa⟩ = false := by rw [HGF.out]; simpa using hkv
            have HTS' : Hid (Mt.tookB mf gf pc (L.take (k + 1)) = (av0, bv0)) := Lib.hid (by rw [HTS.out]; unfold Mt.tookS; simp [hmt, hgf])
            have HFS' : Hid (List.filter (fun q : Int × Mt.Pl => !(decide (q.1 = pc) && mf q.2)) (L.take (k + 1)) = X) := Lib.hid (by rw [HFS.out]; simp [hmt])
            clear hmt hgf HTS HFS hck
            by_cases hk1 : pk = key
            · subst hk1
              have hk2 : ¬ pv = ver := fun e => hkv ⟨rfl, e⟩
              have hv0 : (pv == ver) = false := by simpa using hk2
              have hk0 : (pk.toList == pk.toList) = true := by simp
              clear hkv hk2
              go_wp2_with fail
              go_roundw
              case rel =>
                refine ⟨k + 1, a2, m, c2, _, _, by omega, by first | rfl | go_num, rfl, rfl, rfl, HTS', Lib.hid ?_, HWW⟩
                rw [HFS'.out]
                have := HOW.out w2 HWU.out
                rwa [HXM.out] at this ⊢
              case measure => first | exact meas_stepB hlt | (rw [wk]; exact meas_stepB hlt)
            · have hk0 : (pk.toList == key.toList) = false := by rw [beq_decG]; exact decide_eq_false hk1
              clear hkv hk1
              go_wp2_with fail
              go_roundw
              case rel =>
                refine ⟨k + 1, a2, m, c2, _, _, by omega, by first | rfl | go_num, rfl, rfl, rfl, HTS', Lib.hid ?_, HWW⟩
                rw [HFS'.out]
                have := HOW.out w2 HWU.out
                rwa [HXM.out] at this ⊢
              case measure => first | exact meas_stepB hlt | (rw [wk]; exact meas_stepB hlt)
        · have hmt : mf ⟨pn, pk, pv, pa⟩ = false := by rw [HMF.out]; exact decide_eq_false hck
          have HTS' : Hid (Mt.tookB mf gf pc (L.take (k + 1)) = (av0, bv0)) := Lib.hid (by rw [HTS.out]; unfold Mt.tookS; simp [hmt])
          have HFS' : Hid (List.filter (fun q : Int × Mt.Pl => !(decide (q.1 = pc) && mf q.2)) (L.take (k + 1)) = X ++ [(pc, ⟨pn, pk, pv, pa⟩)]) := Lib.hid (by rw [HFS.out]; simp [hmt])
          have hq0 : ((strOfNums (Mt.be pn 8)).toList == s.toList) = false := by rw [beq_decG]; exact decide_eq_false hck
          clear hmt HTS HFS hck
          generalize strOfNums (Mt.be pn 8) = CK at *
          obtain ⟨a', c', w', hrun, hown, hb'⟩ := HPU.out w2 HWU.out
          have HOW' := Lib.hid hown
          have HB' := Lib.hid (HWW.out.trans hb')
          clear hown hb'
          go_wp2_with (refine wpList_append_run rfl (.tmp 38) (.tmp 40) 27 27 rfl (.slice a2 m c2) (.slice (some ⟨w2.heap.size, 0, none⟩) 1 1) rfl rfl hrun ?_; clear hrun)
          go_roundw
          case rel =>
            refine ⟨k + 1, a', m + 1, c', _, _, by omega, by first | rfl | go_num, rfl, rfl, rfl, HTS', Lib.hid ?_, HB'⟩
            rw [HFS'.out]
            have := HOW'.out
            rw [List.length_append, HXM.out] at this ⊢
            exact this
          case measure => first | exact meas_stepB hlt | (rw [wk]; exact meas_stepB hlt)
      · have hne : (pc != c) = true := by simp [hcc]
        have HTS' : Hid (Mt.tookB mf gf c (L.take (k + 1)) = (av0, bv0)) := Lib.hid (by rw [HTS.out]; unfold Mt.tookS; simp [hcc])
        have HFS' : Hid (List.filter (fun q : Int × Mt.Pl => !(decide (q.1 = c) && mf q.2)) (L.take (k + 1)) = X ++ [(pc, ⟨pn, pk, pv, pa⟩)]) := Lib.hid (by rw [HFS.out]; simp [hcc])
        obtain ⟨-, hwu, hww⟩ := HZ.out wx HRX.out
        have HWU := Lib.hid hwu
        have HWW := Lib.hid hww
        clear hcc HTS HFS hwu hww
        obtain ⟨a', c', w', hrun, hown, hb'⟩ := HPU.out wx HWU.out
        have HOW' := Lib.hid hown
        have HB' := Lib.hid (HWW.out.trans hb')
        clear hown hb'
        go_wp2_with (refine wpList_append_run rfl (.tmp 38) (.tmp 40) 27 27 rfl (.slice a2 m c2) (.slice (some ⟨wx.heap.size, 0, none⟩) 1 1) rfl rfl hrun ?_; clear hrun)
        go_roundw
        case rel =>
          refine ⟨k + 1, a', m + 1, c', _, _, by omega, by first | rfl | go_num, rfl, rfl, rfl, HTS', Lib.hid ?_, HB'⟩
          rw [HFS'.out]
          have := HOW'.out
          rw [List.length_append, HXM.out] at this ⊢
          exact this
        case measure => first | exact meas_stepB hlt | (rw [wk]; exact meas_stepB hlt)
    · obtain rfl : k = n := by omega
      have d1 : decide ((k : Int) < (k : Int)) = false := decide_eq_false (by omega)
      have d2 : decide (k < k) = false := decide_eq_false (by omega)
      have htk : L.take k = L := List.take_of_length_le (by rw [HN.out]; exact Nat.le_refl _)
      rw [htk] at HO HT ⊢
      obtain ⟨hb1, hb2⟩ := HBX.out wr HB.out
      obtain ⟨⟨x0, x1⟩, xf⟩ := box2G hb1
      rw [HN.out] at x1
      have xf1 := frozen_of_row wr R 1 _ _ hb1
      have HFIN := Lib.hid (HBK.out.store (belowToP (S := S) HB.out) hb1 HO.out)
      clear hb1 hb2
      go_wp2_with fail
      all_goals (go_ret2; exact ⟨by rw [HT.out]; rfl, HFIN.out⟩)
end Go.Proofs.Ytmdhioifdnaajaa
