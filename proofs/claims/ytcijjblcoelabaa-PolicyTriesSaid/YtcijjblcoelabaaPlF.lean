/-
  Which failures still count.
-/
import Derived.Test.YtcijjblcoelabaaPlE
set_option linter.unusedVariables false
set_option linter.unusedSimpArgs false
namespace Go.Proofs.Ytcijjblcoelabaa
open Go.RowKit Go.Shelf

theorem Mt.filter_take {l : List Int} {j : Nat} (q : Int → Bool) (h : j < l.length) : (l.take (j + 1)).filter q = (l.take j).filter q ++ (if q l[j] = true then [l[j]] else []) := by
  rw [List.take_succ_eq_append_getElem h, List.filter_append]
  by_cases e : q l[j] = true
  · rw [if_pos e, List.filter_cons_of_pos e]; rfl
  · rw [if_neg e, List.filter_cons_of_neg e]; rfl
/-- What a row holds while some are left out: i are kept of the first j. -/
structure Mt.Keep (q : Int → Bool) (l : List Int) (i j : Nat) (X : List Int) : Prop where
  len : X.length = l.length
  lt : i < j
  le : j ≤ l.length
  low : X.take i = (l.take j).filter q
  high : X.drop j = l.drop j
theorem Mt.Keep.at {q : Int → Bool} {l X : List Int} {i j : Nat} (h : Mt.Keep q l i j X) (hj : j < l.length) : ∃ hx : j < X.length, X[j] = l[j] := by
  have hx : j < X.length := by rw [h.len]; exact hj
  refine ⟨hx, ?_⟩
  have h1 : (X.drop j)[0]'(by rw [List.length_drop]; omega) = X[j] := by simp
  have h2 : (l.drop j)[0]'(by rw [List.length_drop]; omega) = l[j] := by simp
  rw [← h1, ← h2]
  exact List.getElem_of_eq h.high _
theorem Mt.Keep.skip {q : Int → Bool} {l X : List Int} {i j : Nat} (h : Mt.Keep q l i j X) (hj : j < l.length) (hq : q l[j] = false) : Mt.Keep q l i (j + 1) X :=
  ⟨h.len, Nat.lt_succ_of_lt h.lt, hj, by rw [Mt.filter_take q hj, hq, h.low]; simp, by
    have := congrArg List.tail h.high
    rwa [List.tail_drop, List.tail_drop] at this⟩
theorem Mt.Keep.keep {q : Int → Bool} {l X : List Int} {i j : Nat} (h : Mt.Keep q l i j X) (hj : j < l.length) (hq : q l[j] = true) : Mt.Keep q l (i + 1) (j + 1) (X.set i l[j]) :=
  ⟨by rw [List.length_set, h.len], by have := h.lt; omega, hj, by
    have hi : i < X.length := by have := h.lt; have := h.len; omega
    rw [Mt.filter_take q hj, hq, if_pos rfl, ← h.low, List.take_succ_eq_append_getElem (by rw [List.length_set]; exact hi), List.getElem_set_self, List.take_set_of_le (Nat.le_refl _)], by
    have h1 := h.lt
    rw [List.drop_set_of_lt (by omega)]
    have := congrArg List.tail h.high
    rwa [List.tail_drop, List.tail_drop] at this⟩
theorem Mt.Keep.start {q : Int → Bool} {l : List Int} {k : Nat} (hk : k < l.length) (h1 : ∀ j (hj : j < k), q (l[j]'(by omega)) = true) (h2 : q l[k] = false) : Mt.Keep q l k (k + 1) l :=
  ⟨rfl, Nat.lt_succ_self _, hk, by
    rw [Mt.filter_take q hk, h2]
    have : (l.take k).filter q = l.take k := by
      rw [List.filter_eq_self]
      intro x hx
      obtain ⟨j, hj, rfl⟩ := List.mem_iff_getElem.1 hx
      rw [List.length_take] at hj
      rw [List.getElem_take]; exact h1 j (by omega)
    rw [this]; simp, rfl⟩
theorem IsRw.shape {w : World} {g : Nat} {v : Value} {l : List Int} (h : IsRw 2 1 w g v l.length (tms l)) (hn : 0 < l.length) : ∃ off cap, v = .slice (some ⟨g, off, none⟩) l.length cap ∧ l.length ≤ cap := by
  rcases h.2 with ⟨h0, _⟩ | ⟨off, cap, cur, rfl, h2, h3, h4, h5⟩
  · omega
  · exact ⟨off, cap, rfl, h3⟩
/-- Of a row: a cell, and that it isn't frozen. -/
theorem IsRw.at {w : World} {g off n cap : Nat} {xs : List Value} (h : IsRw 2 1 w g (.slice (some ⟨g, off, none⟩) n cap) n xs) (j : Nat) (hj : j < n) : (∀ x, xs[j]? = some x → w.cell? ⟨g, off + j, none⟩ = some x) ∧ w.frozen? ⟨g, off + j, none⟩ = false := by
  obtain ⟨hl, h⟩ := h
  rcases h with ⟨h0, _⟩ | ⟨off2, cap2, cur, h1, h2, h3, h4, h5⟩
  · omega
  · obtain ⟨rfl, rfl⟩ : off = off2 ∧ cap = cap2 := by simpa using h1
    refine ⟨fun x hx => ?_, frozen_of_row w g _ cur 2 h2⟩
    have hjl : j < xs.length := by omega
    rw [List.getElem?_eq_getElem hjl] at hx
    rw [cell_of_row w g _ cur 2 (0, 0) h2, h5 j hjl, hx]
/-- The beginning of a row, what is behind it cleared. -/
theorem IsRw.cleared {w : World} {g off n cap i : Nat} {xs : List Value} (h : IsRw 2 1 w g (.slice (some ⟨g, off, none⟩) n cap) n xs) (hi : i < n) (z : Value) (hz : ∀ u, (zeroValue 2).run Try.prog u = .ok z u) (hz1 : z.cells = #[z]) (hz2 : z.oneCell' = true) (d : Nat) :
    (∀ ty, (Builtin.clear_ #[24] ty #[.slice (some ⟨g, off + i, none⟩) (n - i) d]).run Try.prog w = .ok (.tuple #[]) (w.setCells g (off + i) (List.replicate (n - i) z))) ∧
    IsRw 2 1 (w.setCells g (off + i) (List.replicate (n - i) z)) g (.slice (some ⟨g, off, none⟩) i cap) i (xs.take i) ∧ OnlyS [g] w (w.setCells g (off + i) (List.replicate (n - i) z)) := by
  obtain ⟨hl, h⟩ := h
  rcases h with ⟨h0, _⟩ | ⟨off2, cap2, cur, h1, h2, h3, h4, h5⟩
  · omega
  · obtain ⟨rfl, rfl⟩ : off = off2 ∧ cap = cap2 := by simpa using h1
    obtain ⟨cur', e1, e2, e3, e4, e5⟩ := row_setCells g (List.replicate (n - i) z) (off + i) w cur h2 (by rw [List.length_replicate]; omega)
    refine ⟨fun ty => Lib.run_clear_slice w 24 2 ty z Try.underlying24 hz hz1 hz2 g (off + i) (n - i) d (by omega) (fun j hj => ?_) (fun j hj => frozen_of_row w g _ cur 2 h2), ⟨by rw [List.length_take]; omega, .inr ⟨off, cap, cur', rfl, e1, by omega, by rw [e2]; exact h4, fun k hk => ?_⟩⟩, e5⟩
    · rw [cell_of_row w g _ cur 2 (0, 0) h2, show off + i + j = off + (i + j) by omega, h5 (i + j) (by omega)]; rfl
    · rw [List.length_take] at hk
      rw [e3 (off + k) (by omega), h5 k (by omega), List.getElem_take]
theorem Try.zeroI64 (u : World) : (zeroValue 2).run Try.prog u = .ok (.int .i64 0) u := by kernel_rfl
set_option maxRecDepth 100000 in
set_option maxHeartbeats 2000000 in
/-- Those of a row that are to go are left out of it. -/
theorem deleteFunc23_any {w : World} {g : Nat} {v : Value} {l : List Int} (h : IsRw 2 1 w g v l.length (tms l)) (hn : l.length ≤ 1125899906842624) (f : Nat) (lb : Array Value) (p : Int → Bool) (eg : ∀ args w, (callFunc f args).run Try.prog w = .ok (.enter f args) w)
    (hp : ∀ u, OnlyS [g] w u → ∀ x ∈ l, Calls Try.prog f (#[.int .i64 x] ++ lb) u fun e w' => e = .returned (.bool (p x)) ∧ w' = u) :
    Calls Try.prog 78 #[v, .func (.func f) #[] lb] w fun e w' => ∃ a m c, e = .returned (.slice a m c) ∧ IsRw 2 1 w' g (.slice a m c) (l.filter fun x => !p x).length (tms (l.filter fun x => !p x)) ∧ OnlyS [g] w w' := by
  have HI := Lib.hid (indexFunc23_any h.tm hn f lb p eg (fun u hu x hx => (hp u (Below.onlyS hu (Nat.le_refl _)) x hx).mono fun _ _ ⟨h1, h2⟩ => ⟨h1, by rw [h2]; exact Below.refl _ _⟩))
  have HP := Lib.hid hp
  have hd := Mt.idxI_spec p l
  obtain ⟨k, hk⟩ : ∃ k, Mt.idxI p l = k := ⟨_, rfl⟩
  rw [hk] at HI hd
  clear hp hk
  rcases hd with ⟨rfl, hall⟩ | ⟨k0, rfl, hk0, hpk, hbef⟩
  · have hfl : (l.filter fun x => !p x) = l := by
      rw [List.filter_eq_self]
      intro x hx
      obtain ⟨j, hj, rfl⟩ := List.mem_iff_getElem.1 hx
      rw [hall j hj]; rfl
    rw [hfl]
    have HR := Lib.hid h
    obtain ⟨a, c, rfl⟩ := h.form
    clear h hall hfl HP
    generalize l.length = n at *
    go_enter Try.func78, Try.ntmps78
    go_wp2_with fail
    refine (HI.out).mono ?_
    rintro e w2 ⟨rfl, hb⟩
    have HB := Lib.hid hb
    clear hb
    go_wp2_with fail
    all_goals (go_ret; exact ⟨_, _, _, rfl, HR.out.below HB.out, Below.onlyS HB.out (Nat.le_refl _)⟩)
  · obtain ⟨off, cap, rfl, hcap⟩ := h.shape (by omega)
    have HR := Lib.hid h
    have HK0 := Lib.hid (Mt.Keep.start (q := fun x => !p x) hk0 (fun j hj => by rw [hbef j hj]; rfl) (by rw [hpk]; rfl))
    obtain ⟨n, hN⟩ : ∃ n, l.length = n := ⟨_, rfl⟩
    have HN := Lib.hid hN
    rw [hN] at HI HR hcap hn hk0 ⊢
    have e0 : ((k0 : Int) == -1) = false := beq_eq_false_iff_ne.2 (by omega)
    have w0 : wrap64 ((k0 : Int) + 1) = ((k0 + 1 : Nat) : Int) := by unfold wrap64; omega
    clear h hbef hpk hN
    go_enter Try.func78, Try.ntmps78
    go_wp2_with fail
    refine (HI.out).mono ?_
    rintro e w2 ⟨rfl, hb⟩
    have HO := Lib.hid (Below.onlyS (S := [g]) hb (Nat.le_refl _))
    have HR2 := Lib.hid (HR.out.below hb)
    clear hb
    go_wp2_with fail
    go_loopw [5, 6] (fun iv jv wr => ∃ (i j : Nat) (X : List Int), iv = .int .i64 (i : Int) ∧ jv = .int .i64 (j : Int) ∧ j ≤ n ∧ Hid (Mt.Keep (fun x => !p x) l i j X) ∧ Hid (IsRw 2 1 wr g (.slice (some ⟨g, off, none⟩) n cap) n (tms X)) ∧ Hid (OnlyS [g] w wr)) (fun _ jv _ => n - (intOf jv).toNat)
    case atStart => exact ⟨k0, k0 + 1, l, rfl, by first | rfl | go_num, by omega, HK0, HR2, HO⟩
    case round =>
      obtain ⟨i, j, X, rfl, rfl, hjn, HKP, HRW, HOW⟩ := hrel
      have hij := HKP.out.lt
      by_cases hlt : j < n
      · have d1 : decide ((j : Int) < (n : Int)) = true := decide_eq_true (by omega)
        have d2 : decide (j < n) = true := decide_eq_true hlt
        have j0 : (0 : Int) ≤ (j : Int) := by omega
        have j1 : (j : Int) < (n : Int) := by omega
        have i0 : (0 : Int) ≤ (i : Int) := by omega
        have i1 : (i : Int) < (n : Int) := by omega
        have i2 : i < n := by omega
        have hjl : j < l.length := by rw [HN.out]; exact hlt
        obtain ⟨hjx, hxj⟩ := HKP.out.at hjl
        obtain ⟨x, hx⟩ : ∃ x, l[j] = x := ⟨_, rfl⟩
        have x0 := (HRW.out.at j hlt).1 (.int .i64 x) (by rw [tms_get X j hjx, hxj, hx])
        have fi := (HRW.out.at i i2).2
        have hix : i < X.length := by rw [HKP.out.len, HN.out]; exact i2
        have ci := (HRW.out.at i i2).1 (.int .i64 X[i]) (tms_get X i hix)
        have HC := Lib.hid (HP.out wr HOW.out x (by rw [← hx]; exact List.getElem_mem _))
        have HS := Lib.hid (HRW.out.set i i2 (.int .i64 x))
        have HSK : Hid ((!p x) = true → Mt.Keep (fun x => !p x) l (i + 1) (j + 1) (X.set i x)) := Lib.hid (fun h => by rw [← hx] at h ⊢; exact HKP.out.keep hjl h)
        have HSS : Hid ((!p x) = false → Mt.Keep (fun x => !p x) l i (j + 1) X) := Lib.hid (fun h => by rw [← hx] at h; exact HKP.out.skip hjl h)
        have HTS : Hid (tms (X.set i x) = (tms X).set i (.int .i64 x)) := Lib.hid (by simp [tms])
        generalize X[i] = old at *
        obtain ⟨q, hq⟩ : ∃ q, p x = q := ⟨_, rfl⟩
        rw [hq] at HC HSK HSS
        have wj : wrap64 ((j : Int) + 1) = ((j + 1 : Nat) : Int) := by unfold wrap64; omega
        have wi : wrap64 ((i : Int) + 1) = ((i + 1 : Nat) : Int) := by unfold wrap64; omega
        clear hx hxj hq hjx hjl hix
        go_wp2_with fail
        refine (HC.out).mono ?_
        rintro e w3 ⟨rfl, rfl⟩
        cases q
        · go_wp2_with fail
          go_roundw
          case rel => exact ⟨i + 1, j + 1, X.set i x, by first | rfl | go_num, by first | rfl | go_num, by omega, Lib.hid (HSK.out rfl), Lib.hid (by rw [HTS.out]; exact HS.out.1), Lib.hid (HOW.out.trans HS.out.2)⟩
          case measure => simp [intOf]; omega
        · go_wp2_with fail
          go_roundw
          case rel => exact ⟨i, j + 1, X, rfl, by first | rfl | go_num, by omega, Lib.hid (HSS.out rfl), HRW, HOW⟩
          case measure => simp [intOf]; omega
      · obtain rfl : j = n := by omega
        have d1 : decide ((j : Int) < (j : Int)) = false := decide_eq_false (by omega)
        have d2 : decide (j < j) = false := decide_eq_false (by omega)
        obtain ⟨hcl, hrw, hon⟩ := HRW.out.cleared hij (.int .i64 0) Try.zeroI64 rfl rfl (cap - i)
        have hlow : X.take i = l.filter (fun x => !p x) := by
          have := HKP.out.low
          rw [List.take_of_length_le (l := l) (by rw [HN.out]; exact Nat.le_refl _)] at this; exact this
        have hlen : (l.filter (fun x => !p x)).length = i := by
          rw [← hlow, List.length_take, HKP.out.len, HN.out]; omega
        have htk : (tms X).take i = tms (l.filter (fun x => !p x)) := by rw [← hlow]; simp [tms]
        rw [htk] at hrw
        have HRF := Lib.hid hrw
        have HOF := Lib.hid (HOW.out.trans hon)
        have HLL := Lib.hid hlen
        have i0 : (0 : Int) ≤ (i : Int) := by omega
        have i1 : (i : Int) ≤ (j : Int) := by omega
        have i2 : i ≤ j := by omega
        have i3 : ¬ (cap = i) := by omega
        have i4 : i ≤ cap := by omega
        have i5 : (i : Int) ≤ (cap : Int) := by omega
        clear hrw hon hlow hlen htk
        go_wp2_with fail
        all_goals (go_ret; exact ⟨_, _, _, rfl, by rw [HLL.out]; exact HRF.out, HOF.out⟩)
end Go.Proofs.Ytcijjblcoelabaa
