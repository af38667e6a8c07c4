/-
  FeedBack's walk.
-/
import Derived.Test.YtfnggifadhploaaFdD
import Derived.Test.YtfnggifadhploaaTvT
import Derived.Test.YtfnggifadhploaaTvR
import Derived.Deep.Cut
namespace Go.Proofs.Ytfnggifadhploaa
open Go.RowKit
set_option linter.unusedVariables false

set_option maxRecDepth 100000 in
set_option maxHeartbeats 1000000 in
theorem fback_far (ns : List Mt.Nd) (a : Option Addr) (c : Nat) (s : ByteArray) (hs : s.size ≤ 140737488351232) (hn : ns.length ≤ 9223372036854775807) (w : World) (hfar : 30 < ns.length ∨ 1000 < s.size) :
    Calls Try.prog 10 #[.slice a ns.length c, .string s] w fun e w' => e = .returned (.bool true) ∧ Below w.heap.size w w' := by
  by_cases h1 : 30 < ns.length
  · have h2 : decide (30 < ns.length) = true := by simpa using h1
    clear hfar
    go_enter Try.func10, Try.ntmps10
    go_wp2_with fail
    refine (awake8_any _).mono ?_
    rintro e w1 ⟨rfl, hb⟩
    have HB := Lib.hid hb
    clear hb
    go_wp2_with fail
    go_ret
    exact ⟨rfl, HB.out⟩
  · have h2 : decide (30 < ns.length) = false := by simpa using h1
    have h3 : 1000 < s.size := by omega
    have h4 : decide (1000 < s.size) = true := by simpa using h3
    clear hfar
    go_enter Try.func10, Try.ntmps10
    go_wp2_with fail
    refine (awake8_any _).mono ?_
    rintro e w1 ⟨rfl, hb⟩
    have HB := Lib.hid hb
    clear hb
    go_wp2_with fail
    go_ret
    exact ⟨rfl, HB.out⟩

/-- Messages: each is cut as one. -/
def Msgs (ms : List (List UInt8)) : Prop := ∀ m ∈ ms, m.length ≤ 5000 ∧ m.length ≠ 0 ∧ ∀ r, Mt.cutL (m ++ r) = (m.length, 0)
theorem flat_len {ms : List (List UInt8)} (h : Msgs ms) : ms.flatten.length ≤ 5000 * ms.length := by
  induction ms with
  | nil => simp
  | cons m r ih =>
    have h1 := (h m (by simp)).1
    have h2 := ih (fun x hx => h x (by simp [hx]))
    simp only [List.flatten_cons, List.length_append, List.length_cons]; omega

theorem box_sets {w : World} {b : Nat} {t : TypeId} {x0 x1 x2 : Value} (y0 y1 y2 z0 z1 : Value) (h : w.heap[b]? = some (.cells #[x0, x1, x2] t (0, 0))) :
    (((((w.setCell ⟨b, 0, none⟩ y0).setCell ⟨b, 1, none⟩ y1).setCell ⟨b, 2, none⟩ y2).setCell ⟨b, 0, none⟩ z0).setCell ⟨b, 1, none⟩ z1).heap[b]? = some (.cells #[z0, z1, y2] t (0, 0)) := by
  rw [heap_setCell_same _ _ _ _ _ _ (heap_setCell_same _ _ _ _ _ _ (heap_setCell_same _ _ _ _ _ _ (heap_setCell_same _ _ _ _ _ _ (heap_setCell_same _ _ _ _ _ _ h))))]; rfl
theorem box_other {w : World} {b k : Nat} (y0 y1 y2 z0 z1 : Value) (h : k ≠ b) :
    (((((w.setCell ⟨b, 0, none⟩ y0).setCell ⟨b, 1, none⟩ y1).setCell ⟨b, 2, none⟩ y2).setCell ⟨b, 0, none⟩ z0).setCell ⟨b, 1, none⟩ z1).heap[k]? = w.heap[k]? := by
  rw [heap_setCell_other _ _ _ _ h, heap_setCell_other _ _ _ _ h, heap_setCell_other _ _ _ _ h, heap_setCell_other _ _ _ _ h, heap_setCell_other _ _ _ _ h]
theorem IsNd.retag {w : World} {ok : Nat → Prop} {h : Nat} {a : Option Addr} {c : Nat} {n : Mt.Nd} (hh : IsNd w ok h (.agg #[.int .i64 n.tag, .string (Mt.str n.data), .slice a n.kids.length c]) n) :
    IsNd w ok h (.agg #[.int .i64 (48 : Int), .string (Mt.str []), .slice a n.kids.length c]) (.mk 48 [] n.kids) := by
  cases h with
  | zero => exact hh.elim
  | succ h =>
    obtain ⟨a2, c2, e, h1, h2, h3⟩ := hh
    simp only [Value.agg.injEq] at e
    have e' := congrArg Array.toList e
    simp at e'
    obtain ⟨rfl, rfl⟩ := e'
    exact ⟨a, c, rfl, by simp [Mt.Nd.data], h2, h3⟩
theorem Mt.Small.retag : ∀ {h : Nat} {n : Mt.Nd}, Mt.Small h n → Mt.Small h (.mk 48 [] n.kids)
  | 0, _, hs => hs.elim
  | h + 1, n, hs => ⟨by simp [Mt.Nd.data], hs.2.1, hs.2.2⟩

theorem St.cell {B : Nat} {wH w : World} {l : List UInt8} {e : Nat} {a : Option Addr} {n c : Nat} {ms : List (List UInt8)} (h : St B wH w l e (.slice a n c) ms) (j : Nat) (hj : j < ms.length) :
    ∃ b off, a = some ⟨b, off, none⟩ ∧ w.cell? ⟨b, off + j, none⟩ = some (.string (Mt.str ms[j])) := by
  obtain ⟨_, _, g, gm, _, h2, _⟩ := h
  rcases h2.2 with ⟨h0, _⟩ | ⟨off, cap, cur, hv, a2, a3, a4, a5⟩
  · omega
  · simp only [Value.slice.injEq] at hv
    refine ⟨gm, off, hv.1, ?_⟩
    have hj' : j < (Mt.svs ms).length := by rw [Mt.svs_length]; exact hj
    rw [cell_of_row w gm (off + j) _ _ _ a2, a5 j hj', Mt.svs_get ms j hj']
theorem St.len {B : Nat} {wH w : World} {l : List UInt8} {e : Nat} {v : Value} {ms : List (List UInt8)} (h : St B wH w l e v ms) : Calls Try.prog 32 #[.pointer (some ⟨B, 0, none⟩)] w fun e w' => e = .returned (.int .i64 l.length) ∧ w = w' := by
  obtain ⟨_, _, g, gm, h1, _⟩ := h
  exact blen_any h1

set_option maxRecDepth 100000 in
set_option maxHeartbeats 4000000 in
theorem fback_near (ns : List Mt.Nd) (a : Option Addr) (c : Nat) (s : ByteArray) (hs : s.size ≤ 1000) (hn : ns.length ≤ 30) (w : World) (ok : Nat → Prop) (h hz : Nat) (hk : IsKids (IsNd w ok h) w ok a ns) (hsm : ∀ k ∈ ns, Mt.Small hz k) :
    Calls Try.prog 10 #[.slice a ns.length c, .string s] w fun e w' => e = .returned (.bool true) ∧ Below w.heap.size w w' := by
  have h2 : decide (30 < ns.length) = false := by simp; omega
  have h4 : decide (1000 < s.size) = false := by simp; omega
  have HK := Lib.hid hk
  have HSM := Lib.hid hsm
  have HN30 := Lib.hid hn
  clear hk hsm
  go_enter Try.func10, Try.ntmps10
  go_wp2_with fail
  refine (bnew_any _).mono ?_
  rintro x w1 ⟨rfl, hnil1, hb1⟩
  have hz1 : w.heap.size < w1.heap.size := (hnil1 (w.heap.size + 1) (by omega)).lt
  have hst1 : St w.heap.size w1 w1 [] 0 (.slice none 0 0) [] :=
    ⟨fun _ => rfl, by simp, w1.heap.size + 1, w1.heap.size + 2, hnil1 _ (by omega), IsRw.nil _ _ _ _, by omega, by omega, by omega, by omega, OnlyS.refl _ _⟩
  have HB1 := Lib.hid hb1
  have HST := Lib.hid hst1
  have HZ1 := Lib.hid hz1
  obtain ⟨B, hB⟩ : ∃ B, w.heap.size = B := ⟨_, rfl⟩
  have HBB := Lib.hid hB
  rw [hB] at HST HZ1
  rw [hB]
  clear hnil1 hb1 hst1 hz1 hB
  go_wp2_with fail
  go_loopw [6, 28] (fun lv iv wr => ∃ (k : Nat) (a6 : Option Addr) (c6 : Nat), k ≤ ns.length ∧ iv = .int .i64 k ∧ lv = .slice a6 k c6 ∧ Hid (∃ ms, Msgs ms ∧ ms.length = k ∧ St B w1 wr ms.flatten 0 (.slice a6 k c6) ms)) (fun _ iv _ => ns.length - (intOf iv).toNat)
  case atStart => exact ⟨0, none, 0, Nat.zero_le _, rfl, rfl, [], (fun m hm => by cases hm), rfl, HST.out⟩
  case round =>
    obtain ⟨k, a6, c6, hk', rfl, rfl, HR⟩ := hrel
    by_cases hlt : k < ns.length
    · obtain ⟨ms, hms, rfl, hst⟩ := HR.out
      have hBl : B < wr.heap.size := hst.lt
      have hws : w1.heap.size ≤ wr.heap.size := hst.only.size
      have hbw : Below w.heap.size w wr := HB1.out.trans (hst.only.toBelow (by simp; have := HBB.out; omega) (by have := HZ1.out; have := HBB.out; omega))
      obtain hnil | ⟨ba, oa, rfl, _, hca⟩ := HK.out
      · rw [hnil] at hlt; simp at hlt
      obtain ⟨x0, x1, x2, p0, p1, p2, hx⟩ := hca _ hlt
      have hla := World.block_lt_of_cell? w _ p0
      have ea : ∀ o, wr.cell? ⟨ba, o, none⟩ = w.cell? ⟨ba, o, none⟩ := fun o => hbw.cell (p := ⟨ba, o, none⟩) hla
      rw [← ea, Nat.mul_comm 3] at p0 p1 p2
      have hxw := hx.below hbw
      have hsm1 := HSM.out _ (List.getElem_mem hlt)
      obtain ⟨nd, hnd⟩ : ∃ nd, ns[ms.length] = nd := ⟨_, rfl⟩
      rw [hnd] at hxw hsm1 hx
      obtain ⟨ax, cx, ex⟩ := hxw.form
      simp only [Value.agg.injEq] at ex
      have ex' := congrArg Array.toList ex
      simp at ex'
      obtain ⟨rfl, rfl, rfl⟩ := ex'
      have HX := Lib.hid hxw
      have HS1 := Lib.hid hsm1
      have HMS := Lib.hid hms
      have HS2 := Lib.hid hst
      have HBW := Lib.hid hbw
      clear ex hx hca ea hnd hms hst hbw HR hxw hsm1 hla
      obtain ⟨O, hO⟩ : ∃ O, Obj.cells #[.int .i64 nd.tag, .string (Mt.str nd.data), .slice ax nd.kids.length cx] 24 (0, 0) = O := ⟨_, rfl⟩
      have hb0 := (Below.refl wr.heap.size wr).alloc (Nat.le_refl _) O
      have HR0 := Lib.hid (heap_alloc_new wr O)
      have HB0 := Lib.hid hb0
      have HT := Lib.hid (twin_any h nd _ (wr.alloc O) _ (HX.out.below hb0))
      rw [← hO] at HB0 HT HR0
      clear hb0 hO
      go_upto_region 8 with fail
      go_wp2_with fail
      refine (HT.out).mono ?_
      rintro x w2 ⟨a2, c2, rfl, hn1, hb1⟩
      have HB2 := Lib.hid (HB0.out.trans (hb1.mono HB0.out.size))
      have HR1 := Lib.hid ((hb1.block _ (lt_of_block HR0.out)).trans HR0.out)
      have HN1 := Lib.hid hn1
      obtain ⟨c0, c1, c2', f0, f1, f2⟩ := box_of HR1.out
      clear hb1 hn1
      have HR3 := Lib.hid (box_sets (.int .i64 nd.tag) (.string (Mt.str nd.data)) (.slice a2 nd.kids.length c2) (.int .i64 (48 : Int)) (.string (Mt.str [])) HR1.out)
      have HB3 : Hid (Below wr.heap.size wr (((((w2.setCell ⟨wr.heap.size, 0, none⟩ (.int .i64 nd.tag)).setCell ⟨wr.heap.size, 1, none⟩ (.string (Mt.str nd.data))).setCell ⟨wr.heap.size, 2, none⟩ (.slice a2 nd.kids.length c2)).setCell ⟨wr.heap.size, 0, none⟩ (.int .i64 (48 : Int))).setCell ⟨wr.heap.size, 1, none⟩ (.string (Mt.str [])))) :=
        ((box_below HB2.out (Nat.le_refl _) _ _ _).setCell (Nat.le_refl _) _).setCell (Nat.le_refl _) _
      have HN3 := Lib.hid ((IsNd.keep (ok' := fun _ => True) (fun _ _ _ => trivial) (fun b hb _ => box_other (b := wr.heap.size) (.int .i64 nd.tag) (.string (Mt.str nd.data)) (.slice a2 nd.kids.length c2) (.int .i64 (48 : Int)) (.string (Mt.str [])) (by simp at hb; omega)) (Nat.le_refl _) HN1.out).retag)
      have hem : Mt.str [] = (⟨#[]⟩ : ByteArray) := rfl
      rw [hem] at HR3 HB3 HN3
      go_upto_region 10 with fail
      generalize (((((w2.setCell ⟨wr.heap.size, 0, none⟩ (.int .i64 nd.tag)).setCell ⟨wr.heap.size, 1, none⟩ (.string (Mt.str nd.data))).setCell ⟨wr.heap.size, 2, none⟩ (.slice a2 nd.kids.length c2)).setCell ⟨wr.heap.size, 0, none⟩ (.int .i64 (48 : Int))).setCell ⟨wr.heap.size, 1, none⟩ (.string (⟨#[]⟩ : ByteArray))) = w3 at *
      have HP := Lib.hid (rPut_any _ _ w3 _ _ _ HN3.out HS1.out.retag)
      obtain ⟨P, hP⟩ : ∃ P, Mt.putL 64 (.mk 48 [] nd.kids) = P := ⟨_, rfl⟩
      rw [hP] at HP
      have HPP := Lib.hid hP
      clear hP c0 c1 c2' f0 f1 f2
      obtain ⟨c0, c1, c2', f0, f1, f2⟩ := box_of HR3.out
      go_wp2_with fail
      refine (HP.out).mono ?_
      rintro x w4 ⟨rfl, hb4⟩
      have HB4 := Lib.hid (HB3.out.trans (hb4.mono HB3.out.size))
      clear hb4 c0 c1 c2' f0 f1 f2
      have HBA : Hid (Below w.heap.size w w4) := HBW.out.trans (HB4.out.mono HBW.out.size)
      cases P with
      | error e =>
        have hene := Mt.putL_err _ _ _ HPP.out
        have he1 : ((e : Int) != 0) = true := by simp; omega
        have he2 : ((e : Int) == 0) = false := by simp; omega
        clear hene
        simp only [putV]
        go_wp2_with fail
        refine (awake8_any _).mono ?_
        rintro x w5 ⟨rfl, hb5⟩
        have HB5 := Lib.hid (HBA.out.trans (hb5.mono HBA.out.size))
        clear hb5
        go_wp2_with fail
        go_ret
        exact ⟨rfl, HB5.out⟩
      | ok m =>
        have hssz : (Mt.str m).size = m.length := Mt.str_size m
        simp only [putV]
        by_cases hbig : 5000 < m.length
        · have hbd : decide (5000 < m.length) = true := decide_eq_true hbig
          go_wp2_with fail
          refine (awake8_any _).mono ?_
          rintro x w5 ⟨rfl, hb5⟩
          have HB5 := Lib.hid (HBA.out.trans (hb5.mono HBA.out.size))
          clear hb5
          go_wp2_with fail
          go_ret
          exact ⟨rfl, HB5.out⟩
        · have hbd : decide (5000 < m.length) = false := decide_eq_false hbig
          go_upto_region 13 with fail
          have hn30 := HN30.out
          have hM : Msgs (ms ++ [m]) := by
            intro x hx
            rcases List.mem_append.1 hx with hx | hx
            · exact HMS.out x hx
            · obtain rfl := List.mem_singleton.1 hx
              exact ⟨by omega, (Mt.cut_msg [] HPP.out).2, fun r => (Mt.cut_msg r HPP.out).1⟩
          have hfl := flat_len HMS.out
          obtain ⟨v5, w5, hrun, hst5⟩ := (HS2.out.below HB4.out HS2.out.lt).push m (Mt.str m) rfl (by omega)
          obtain ⟨a7, c7, rfl⟩ := hst5.form
          have hA := hst5.add [Mt.str m] (by simp) (by have e : Mt.cats [Mt.str m] = m := (by simp [Mt.cats, Mt.str_data]); rw [e]; omega)
          have HA : Hid (Calls Try.prog 30 #[.pointer (some ⟨B, 0, none⟩), .slice (some ⟨w5.heap.size, 0, none⟩) 1 1] (w5.alloc (.cells #[.string (Mt.str m)] 9)) fun x w' => x = .returned (.tuple #[]) ∧ St B w1 w' (ms ++ [m]).flatten 0 (.slice a7 (ms.length + 1) c7) (ms ++ [m])) := by
            have e : (if (0 : Nat) = 0 then ms.flatten ++ Mt.cats [Mt.str m] else ms.flatten) = (ms ++ [m]).flatten := by simp [Mt.cats, Mt.str_data]
            have hl1 : (ms ++ [m]).length = ms.length + 1 := by simp
            rw [e, hl1] at hA
            exact hA
          have hl1 : (ms ++ [m]).length = ms.length + 1 := by simp
          rw [hl1] at hrun
          have HM := Lib.hid hM
          clear hst5 hA hM hfl hbig
          go_wp2_with (at_builtin; refine wpList_append_run rfl (.tmp 49) (.tmp 51) 60 60 rfl _ _ rfl rfl hrun ?_)
          refine (HA.out).mono ?_
          rintro x w6 ⟨rfl, hst6⟩
          have HS6 := Lib.hid hst6
          clear hst6
          go_wp2_with fail
          go_roundw
          case rel => exact ⟨ms.length + 1, a7, c7, by omega, by go_num, rfl, ms ++ [m], HM.out, hl1, HS6.out⟩
          case measure => simp [intOf]; omega
    · obtain rfl : k = ns.length := by omega
      obtain ⟨ms, hms, hml, hst⟩ := HR.out
      have hsl : s.data.toList.length = s.size := rfl
      have hfl := flat_len hms
      have hn30 := HN30.out
      have hA := hst.add [s] (by simp) (by have e : Mt.cats [s] = s.data.toList := (by simp [Mt.cats]); rw [e]; omega)
      have HA : Hid (Calls Try.prog 30 #[.pointer (some ⟨B, 0, none⟩), .slice (some ⟨wr.heap.size, 0, none⟩) 1 1] (wr.alloc (.cells #[.string s] 9)) fun x w' => x = .returned (.tuple #[]) ∧ St B w1 w' (ms.flatten ++ s.data.toList) 0 (.slice a6 ns.length c6) ms) := by
        have e : (if (0 : Nat) = 0 then ms.flatten ++ Mt.cats [s] else ms.flatten) = ms.flatten ++ s.data.toList := by simp [Mt.cats]
        rw [e] at hA
        exact hA
      have HMS := Lib.hid hms
      have HML := Lib.hid hml
      clear hA hst HR hms hfl hml
      go_wp2_with fail
      refine (HA.out).mono ?_
      rintro x w2 ⟨rfl, hst2⟩
      have HS2 := Lib.hid hst2
      clear hst2
      go_wp2_with fail
      go_loopw [64] (fun iv wr => ∃ (j : Nat), j ≤ ns.length ∧ iv = .int .i64 j ∧ Hid (St B w1 wr ((ms.drop j).flatten ++ s.data.toList) 0 (.slice a6 ns.length c6) ms)) (fun iv _ => ns.length - (intOf iv).toNat)
      case atStart => exact ⟨0, Nat.zero_le _, rfl, HS2.out⟩
      case round =>
        obtain ⟨j, hj, rfl, HR⟩ := hrel
        by_cases hlt : j < ns.length
        · have hjm : j < ms.length := by have := HML.out; omega
          obtain ⟨b, off, rfl, hc⟩ := HR.out.cell j hjm
          obtain ⟨hm1, hm2, hm3⟩ := HMS.out _ (List.getElem_mem hjm)
          have hd : (ms.drop j).flatten ++ s.data.toList = ms[j] ++ ((ms.drop (j + 1)).flatten ++ s.data.toList) := by
            rw [List.drop_eq_getElem_cons hjm, List.flatten_cons, List.append_assoc]
          have hst := HR.out
          rw [hd] at hst
          have HN := Lib.hid (hst.next (hm3 _) hm2)
          obtain ⟨m, hm⟩ : ∃ m, ms[j] = m := ⟨_, rfl⟩
          rw [hm] at HN hc
          clear hst hd hm1 hm2 hm3 hm
          go_wp2_with fail
          refine (HN.out).mono ?_
          rintro x w3 ⟨rfl, hst3⟩
          have HS3 := Lib.hid hst3
          clear hst3
          go_wp2_with fail
          go_roundw
          case rel => exact ⟨j + 1, by omega, by go_num, HS3.out⟩
          case measure => simp [intOf]; omega
        · obtain rfl : j = ns.length := by omega
          have hd : (ms.drop ns.length).flatten ++ s.data.toList = s.data.toList := by rw [← HML.out, List.drop_length]; rfl
          have hst := HR.out
          rw [hd] at hst
          have HS3 := Lib.hid hst
          clear hst hd HR
          go_wp2_with fail
          refine (awake8_any _).mono ?_
          rintro x w4 ⟨rfl, hb4⟩
          have hst4 := HS3.out.below hb4 HS3.out.lt
          have HS4 := Lib.hid hst4
          have HL := Lib.hid hst4.len
          clear hst4 hb4
          go_wp2_with fail
          refine (HL.out).mono ?_
          rintro x w5 ⟨rfl, rfl⟩
          go_wp2_with fail
          go_ret
          refine ⟨by simp [hsl], ?_⟩
          exact HB1.out.trans (HS4.out.only.toBelow (by simp; have := HBB.out; omega) (by have := HZ1.out; have := HBB.out; omega))
end Go.Proofs.Ytfnggifadhploaa
