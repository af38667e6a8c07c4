/-
  Some texts of one proof, one behind the other.
-/
import Derived.OwnWalk
import Derived.Test.YtnioagojiipjlaaGreatPk12
set_option linter.unusedVariables false
set_option linter.unusedSimpArgs false

/-
  What Write, Flush, Lay and Image come to.
-/
namespace Go.Proofs.YtnioagojiipjlaaGreat
open Go.RowKit Go.Maps

section
variable {ops : Array Oper} {rest : List Oper} {o : Oper} {a : Act} {w : World} {Q : Exit → Act → World → Prop} {B bl bm : Nat} {d : Mt.Dk}

/-- A sector's bytes are put into the map. -/
theorem wpList_wait (hg : o.guard = none) (m x v : Operand) (hop : o.op = Op.mapUpdate 62 m x v) (h : IsDisk w B bl bm d) (i : Nat) (hi : i < d.lasts.length) (s : List UInt8) (hs : s.length = 128)
    (hm : a.eval m = .map (some bm)) (hx : a.eval x = .int .i64 (i : Int)) (hv : a.eval v = secV s)
    (hK : ∀ w', IsDisk w' B bl bm { d with waits := d.waits.set i (some s) } → OnlyS [B, bl, bm] w w' → wpList Tryz.prog ops Q rest (a.put o.dst undef) w') : wpList Tryz.prog ops Q (o :: rest) a w := by
  obtain ⟨D, hD, hW⟩ := h.waits
  have hmost := h.ok.most
  have hsz : Maps.size D ≤ 8192 := by
    rw [waits_size hD hW]
    exact Nat.le_trans (Mt.wkeys_length _) (by rw [h.ok.len]; exact hmost)
  have hkey : keyOf Tryz.prog 3 (.int .i64 (i : Int)) = some (.int .i64 (i : Int)) := keyOf_int_mk Tryz.underlying3 (WalkArith.wf_i64 (by omega))
  refine wpList_mapUpdate_own w hg m x v 62 hop 3 72 keyLaw Tryz.underlying62 secElem bm (Maps.size D) D hm hD (by unfold maxLen; omega) _ _ _ hx hv hkey _ [] (secElem_mk s hs) fun w' hD' hgr => ?_
  refine hK w' (h.setWaits _ (h.ok.wait i s hs) hgr _ _ hD' (hW.put (hD.isMap) i (by rw [h.ok.len]; exact hi) s)) ?_
  exact (OnlyS.refl _ _).grown (by simp) hgr

/-- A text of a sector's length is copied into a new sector. -/
theorem copy_fresh (w : World) (Z : Array Value) (hZ : Z.size = 128) (s : ByteArray) (hs : s.size = 128) (ty : TypeId) :
    (Builtin.copy_ #[73, 9] ty #[.slice (some ⟨w.heap.size, 0, none⟩) 128 128, .string s]).run Tryz.prog (w.alloc (.cells Z 72)) = .ok (goInt 128) (w.alloc (.cells (secCells s.data.toList) 72)) := by
  have h := run_copy_str (P := Tryz.prog) (w.alloc (.cells Z 72)) 73 9 ty 5 w.heap.size 0 128 128 128 s Z 72 Tryz.underlying73 Tryz.szU8 (heap_alloc_new _ _) (by rw [hs]; rfl) (by omega)
  have hl : s.data.toList.length = 128 := hs
  rw [List.take_zero, List.nil_append, List.drop_of_length_le (by rw [Array.length_toList]; omega), List.append_nil, List.take_of_length_le (by omega), setRow_alloc] at h
  exact h

theorem write_nil (i : Int) (s : ByteArray) (w : World) : Calls Tryz.prog 78 #[.pointer none, .int .i64 i, .string s] w fun e w' => e = .returned (.int .i64 1) ∧ w = w' := by
  have HA := Lib.hid (ask_nil i w)
  go_enter Tryz.func78, Tryz.ntmps78
  go_wp2_with fail
  refine (HA.out).mono ?_
  rintro e w' ⟨rfl, rfl⟩
  go_wp2_with fail
  go_ret
  exact ⟨rfl, rfl⟩

set_option maxRecDepth 100000 in
theorem write_any (h : IsDisk w B bl bm d) (i : Int) (s : ByteArray) : Calls Tryz.prog 78 #[.pointer (some ⟨B, 0, none⟩), .int .i64 i, .string s] w fun e w' => e = .returned (.int .i64 (d.write i s.data.toList).2) ∧ IsDisk w' B bl bm (d.write i s.data.toList).1 ∧ OnlyS [B, bl, bm] w w' := by
  have HA := Lib.hid (ask_any h i)
  have HD := Lib.hid h
  by_cases h0 : d.ask i = 0
  · rw [h0] at HA
    by_cases h1 : s.size = 128
    · have h1' : ((s.size : Int) != 128) = false := by simp; omega
      by_cases h2 : i < d.room
      · have e : d.write i s.data.toList = ({ d with waits := d.waits.set i.toNat (some s.data.toList) } : Mt.Dk).count := by unfold Mt.Dk.write; rw [if_pos h0, if_pos (show s.data.toList.length = 128 from h1), if_pos h2]
        rw [e]
        obtain ⟨ha, hb, hc⟩ := Mt.ask_yes h0
        obtain ⟨k, rfl⟩ : ∃ k : Nat, i = k := ⟨i.toNat, by omega⟩
        rw [Int.toNat_natCast] at e ⊢
        have hk : k < d.lasts.length := by omega
        have hc2 := h.c2
        have hlt := h.ltB
        have hr : decide (d.room ≤ k) = false := decide_eq_false (by omega)
        have hZ : (secCells Mt.blank).size = 128 := by rw [secCells_size]; exact Mt.blank_length
        have HZ := Lib.hid hZ
        have HS := Lib.hid (show s.data.toList.length = 128 from h1)
        clear e ha hb hc hZ h0 h2 h
        generalize hZ : secCells Mt.blank = Z at HZ
        have hsz : s.size ≤ 128 := by omega
        go_enter Tryz.func78, Tryz.ntmps78
        go_wp2_with fail
        refine (HA.out).mono ?_
        rintro e w' ⟨rfl, rfl⟩
        have HCP := Lib.hid (copy_fresh w Z HZ.out s h1)
        go_wp2_with (first | (refine wpList_alloc_sec rfl rfl ?_; rw [hZ]) | (refine wpList_copy_run _ rfl _ _ 73 9 rfl _ _ rfl rfl HCP.out ?_))
        go_frame
        have hd3 := HD.out.alloc (.cells (secCells s.data.toList) 72)
        have hg3 := heap_alloc_new w (.cells (secCells s.data.toList) 72)
        have hb3 := (OnlyS.refl [B, bl, bm] w).alloc (.cells (secCells s.data.toList) 72)
        generalize (w.alloc (.cells (secCells s.data.toList) 72)) = w3 at hd3 hg3 hb3 ⊢
        generalize w.heap.size = n3 at *
        have hc1 := hd3.c1
        have HD3 := Lib.hid hd3
        have HB3 := Lib.hid hb3
        have HLD := Lib.hid (load_own w3.drew n3 s.data.toList HS.out hg3)
        clear hd3 hg3 hb3 hc2 HCP HD HZ
        refine wp_region_still_tail 6 (by kernel_rfl) (by kernel_rfl) ?_
        simp only [List.take_succ_cons, List.take_zero, List.drop_succ_cons, List.drop_zero]
        still_step
        still_step
        still_step
        still_step
        still_step
        refine wpStill_step (fun K hK => still_load5 rfl 72 (.tmp 8) rfl ⟨n3, 0, none⟩ (secV s.data.toList) rfl HLD.out (hK _ ?_))
        clear hK K
        refine wpStill_nil ?_
        change wpList _ _ _ _ _ w3.drew
        refine wpList_wait rfl (.tmp 30) (.tmp 31) (.tmp 32) rfl HD3.out.drew k hk s.data.toList HS.out rfl rfl rfl ?_
        intro w4 hd4 ho4
        have HC := Lib.hid (count_any hd4)
        have HB4 := Lib.hid ((HB3.out.drew).trans ho4)
        clear hd4 ho4 HD3 HB3 HLD
        go_wp2_with fail
        refine (HC.out).mono ?_
        rintro e w5 ⟨rfl, hd, ho⟩
        have HD5 := Lib.hid hd
        have HB5 := Lib.hid (HB4.out.trans ho)
        clear hd ho HC HB4
        go_wp2_with fail
        go_ret
        exact ⟨rfl, HD5.out, HB5.out⟩
      · have e : d.write i s.data.toList = (d, 11) := by unfold Mt.Dk.write; rw [if_pos h0, if_pos (show s.data.toList.length = 128 from h1), if_neg h2]
        rw [e]
        have hc2 := h.c2
        have hr : decide ((d.room : Int) ≤ i) = true := decide_eq_true (by omega)
        have hr2 : (d.room : Int) ≤ i := by omega
        clear e h0 h2 h h1
        generalize d.room = r at *
        go_enter Tryz.func78, Tryz.ntmps78
        go_wp2_with fail
        refine (HA.out).mono ?_
        rintro e w' ⟨rfl, rfl⟩
        go_wp2_with fail
        go_ret
        exact ⟨rfl, HD.out, OnlyS.refl _ _⟩
    · have h1' : ((s.size : Int) != 128) = true := by simp; omega
      have e : d.write i s.data.toList = (d, 2) := by unfold Mt.Dk.write; rw [if_pos h0, if_neg (show ¬ s.data.toList.length = 128 from h1)]
      rw [e]
      clear e h0 h h1
      go_enter Tryz.func78, Tryz.ntmps78
      go_wp2_with fail
      refine (HA.out).mono ?_
      rintro e w' ⟨rfl, rfl⟩
      go_wp2_with fail
      go_ret
      exact ⟨rfl, HD.out, OnlyS.refl _ _⟩
  · have e : d.write i s.data.toList = (d, d.ask i) := by unfold Mt.Dk.write; rw [if_neg h0]
    rw [e]
    obtain ⟨r, hr⟩ : ∃ r, d.ask i = r := ⟨_, rfl⟩
    rw [hr] at HA h0 ⊢
    have hne2 : (r != 0) = true := by simpa using h0
    clear hr h e h0
    go_enter Tryz.func78, Tryz.ntmps78
    go_wp2_with fail
    refine (HA.out).mono ?_
    rintro e w' ⟨rfl, rfl⟩
    go_wp2_with fail
    go_ret
    exact ⟨rfl, HD.out, OnlyS.refl _ _⟩

/-! ### Flush -/
theorem OnlyS.andNew {S : List Nat} {r : Nat} {a b c : World} (h1 : OnlyS S a b) (h2 : OnlyS (r :: S) b c) (hr : a.heap.size ≤ r) : OnlyS S a c :=
  ⟨h2.os.trans h1.os, h2.tape.trans h1.tape, h2.output.trans h1.output, Nat.le_trans h1.size h2.size, fun k hk hS => (h2.block k (Nat.lt_of_lt_of_le hk h1.size) (by
    intro hm
    rcases List.mem_cons.1 hm with rfl | hm
    · omega
    · exact hS hm)).trans (h1.block k hk hS)⟩
theorem grownBy_setRow (w : World) (g : Nat) (cs : Array Value) : w.grownBy (w.setRow g cs) (some g) :=
  ⟨rfl, rfl, rfl, by rw [setRow_size]; exact Nat.le_refl _, fun k _ hk => setRow_other _ _ _ _ (fun e => hk (by rw [e]))⟩

/-- What lasts while the entries of a map are gone through. -/
def Mid (q : Mt.Dk) (left : Lit → Bool) (L : List (List UInt8)) : Prop :=
  L.length = q.lasts.length ∧ ∀ (i : Nat) (h : i < L.length) (h2 : i < q.lasts.length), L[i] = match q.waits.getD i none with
    | some b => if left (.int .i64 (i : Int)) then q.lasts[i] else b
    | none => q.lasts[i]
theorem Mid.start {D : DataW Unit} {q : Mt.Dk} (hW : Waits D q.waits) : Mid q (Maps.has D) q.lasts := by
  refine ⟨rfl, fun i h h2 => ?_⟩
  cases hw : q.waits.getD i none with
  | none => rfl
  | some b =>
    have hb : q.waits[i]? = some (some b) := by
      rw [List.getD_eq_getElem?_getD] at hw
      cases hx : q.waits[i]? with
      | none => rw [hx] at hw; cases hw
      | some v => rw [hx] at hw; simp at hw; rw [hw]
    have hh : Maps.has D (.int .i64 (i : Int)) = true := (hW.has i).2 ⟨by omega, b, by rw [Int.toNat_natCast]; exact hb⟩
    dsimp only
    rw [if_pos hh]
theorem Mid.step {q : Mt.Dk} {left : Lit → Bool} {L : List (List UInt8)} (h : Mid q left L) (i : Nat) (hi : i < q.lasts.length) (b : List UInt8) (hb : q.waits[i]? = some (some b)) :
    Mid q (fun z => left z && !z.sameKey (.int .i64 (i : Int))) (L.set i b) := by
  refine ⟨by rw [List.length_set]; exact h.1, fun j h1 h2 => ?_⟩
  have h3 : j < L.length := by rw [h.1]; exact h2
  rw [List.getElem_set]
  by_cases hj : i = j
  · subst hj
    rw [if_pos rfl]
    have e : q.waits.getD i none = some b := by rw [List.getD_eq_getElem?_getD, hb]; rfl
    rw [e]
    simp [Lit.sameKey]
  · rw [if_neg hj, h.2 j h3 h2]
    have hne : (Lit.int .i64 (j : Int)).sameKey (.int .i64 (i : Int)) = false := Maps.sameKey_ne (fun e => hj (by cases e; rfl))
    cases q.waits.getD j none with
    | none => rfl
    | some c => simp [hne]
theorem Mid.done {q : Mt.Dk} {left : Lit → Bool} {L : List (List UInt8)} (h : Mid q left L) (hq : q.Ok) (hl : ∀ kl, left kl = false) : L = Mt.over q.lasts q.waits := by
  apply List.ext_getElem
  · rw [Mt.over_length _ _ hq.len, h.1]
  · intro i h1 h2
    have h3 : i < q.lasts.length := by rw [← h.1]; exact h1
    have h4 : i < q.waits.length := by rw [hq.len]; exact h3
    rw [h.2 i h1 h3]
    simp only [Mt.over, List.getElem_zipWith]
    have e : q.waits.getD i none = q.waits[i] := by simp [List.getD, List.getElem?_eq_getElem h4]
    rw [e]
    cases q.waits[i] with
    | none => rfl
    | some b => simp [hl]

theorem flush_nil (w : World) : Calls Tryz.prog 57 #[.pointer none] w fun e w' => e = .returned (.int .i64 1) ∧ w = w' := by
  go_enter Tryz.func57, Tryz.ntmps57
  go_wp2
  go_ret
  exact ⟨rfl, rfl⟩

set_option maxHeartbeats 1000000 in
set_option maxRecDepth 100000 in
theorem flush_any (h : IsDisk w B bl bm d) : Calls Tryz.prog 57 #[.pointer (some ⟨B, 0, none⟩)] w fun e w' => e = .returned (.int .i64 d.flush.2) ∧ IsDisk w' B bl bm d.flush.1 ∧ OnlyS [B, bl, bm] w w' := by
  have h3 := h.c3
  have HC := Lib.hid (count_any h)
  have HD := Lib.hid h
  cases hoff : d.off with
  | true =>
    have e : d.flush = (d, 10) := by unfold Mt.Dk.flush; rw [hoff]; rfl
    rw [e]
    rw [hoff] at h3
    clear e h hoff
    go_enter Tryz.func57, Tryz.ntmps57
    go_wp2
    go_ret
    exact ⟨rfl, HD.out, OnlyS.refl _ _⟩
  | false =>
    by_cases hc : d.count.2 = 0
    · have e : d.flush = (d.count.1.flushed, 0) := by unfold Mt.Dk.flush; rw [hoff, if_pos hc]; rfl
      rw [e]
      rw [hoff] at h3
      rw [hc] at HC
      generalize d.count.1 = q at *
      clear e h hoff HD hc
      go_enter Tryz.func57, Tryz.ntmps57
      go_wp2_with fail
      refine (HC.out).mono ?_
      rintro e w2 ⟨rfl, hd, ho⟩
      have HD2 := Lib.hid hd
      have HO2 := Lib.hid ho
      have hc1 := hd.c1
      obtain ⟨D, hD, hW⟩ := hd.waits
      have HOWN := Lib.hid hD
      have HWA := Lib.hid hW
      have HQL := Lib.hid hd.ok.lasts
      clear hd ho hD hW h3 HC
      go_wp2_with (refine wpList_range_own _ rfl _ 62 rfl 3 72 keyLaw Tryz.underlying62 secElem bm (Maps.size D) D rfl HOWN.out ?_; intro w0 hrg0 hg0 hs0)
      go_frame
      have HMID0 := Lib.hid (Mid.start HWA.out)
      have HRG0 := Lib.hid hrg0
      have HD0 := Lib.hid (HD2.out.kept (u := w0) (hg0.block _ HD2.out.ltB (by simp)) (hg0.block _ HD2.out.ltL (by simp)) (hg0.block _ HD2.out.ltM (by simp)))
      have HO0 := Lib.hid (HO2.out.grown0 hg0)
      have hnl := HD2.out.ltL
      have hnm := HD2.out.ltM
      have hnb := HD2.out.ltB
      have hnw := HO2.out.size
      clear hrg0 hg0 hs0 hc1 HD2 HO2
      generalize w2.heap.size = rn at *
      go_loopw [22] (fun _ wr => ∃ (left : Lit → Bool) (cnt : Nat) (L : List (List UInt8)), Hid (wr.ranges Tryz.prog 3 secElem bm rn (Maps.size D) D left cnt) ∧ Hid (Mid q left L) ∧ Hid (IsDisk wr B bl bm { q with lasts := L }) ∧ Hid (OnlyS [B, bl, bm] w wr))
        (fun _ wr => wr.rangeLeft bm rn)
      case atStart => exact ⟨_, _, q.lasts, HRG0, HMID0, HD0, HO0⟩
      case round =>
        clear HRG0 HMID0 HD0 HO0
        obtain ⟨left, cnt, L, HRG, HM, HDL, HOL⟩ := hrel
        go_wp2_with (refine wpList_next_ranges _ rfl _ rfl 3 keyLaw secElem (Value.int .i64) secV (fun key kl hk => by obtain ⟨x, hx, _⟩ := Maps.keyOf_int_inv Tryz.underlying3 hk; exact ⟨x, hx⟩) (fun v y hv => by obtain ⟨c, _, hc, _⟩ := secElem_inv hv; exact ⟨c, hc⟩) bm rn (Maps.size D) D left cnt rfl HRG.out ?_ ?_)
        · intro hc0 hl0
          have hq : q.Ok := by
            have o := HDL.out.ok
            refine ⟨?_, ?_, ?_, o.waits, ?_, o.cut, o.keep, o.torn, o.at'⟩
            · rw [← HM.out.1]; exact o.len
            · rw [← HM.out.1]; exact o.most
            · exact HQL.out
            · rw [← HM.out.1]; exact o.room
          have HLD := Lib.hid (HM.out.done hq hl0)
          have hc1 := HDL.out.c1
          obtain ⟨u, hu, hdu, hou⟩ := HDL.out.clear 0
          have hu' : ∀ ty, (Builtin.clear_ #[62] ty #[.map (some bm)]).run Tryz.prog wr = .ok (.tuple #[]) u := fun ty => hu
          have HU := Lib.hid hu'
          have HLN := Lib.hid HM.out.1
          have HDU := Lib.hid hdu
          have HOU := Lib.hid (HOL.out.trans hou)
          clear hu hu' hdu hou hc0 hl0 HRG HM HDL HOL hq HQL
          go_wp2_with (refine wpList_clear_run rfl _ rfl _ rfl u HU.out ?_)
          go_ret
          refine ⟨rfl, ?_, HOU.out⟩
          have h := HDU.out
          rw [HLN.out, HLD.out] at h
          exact h
        · intro x c kl y yp w3 cnt3 hkey hlk hv hat hrg3 hlt3 hg3 hs3 hen
          obtain ⟨x', ex, rfl, hwx⟩ := Maps.keyOf_int_inv Tryz.underlying3 hkey
          cases ex
          obtain ⟨c', hcl, ec, ez⟩ := secElem_inv hv
          obtain rfl := secV_inj ec
          obtain rfl : y = .lit (.string c) := congrArg Prod.fst ez
          have hhas : Maps.has D (.int .i64 x) = true := Maps.has_true_of_atKey hat
          obtain ⟨hx0, b, hb⟩ := (HWA.out.has x).1 hhas
          obtain ⟨i, rfl⟩ : ∃ i : Nat, x = i := ⟨x.toNat, by omega⟩
          rw [Int.toNat_natCast] at hb
          obtain rfl : b = c := by
            have h := hat (.lit (.string []))
            rw [HWA.out.at' i b _ hb] at h
            simpa using h
          have hi : i < q.lasts.length := by
            have h1 : i < q.waits.length := by
              rcases Nat.lt_or_ge i q.waits.length with h | h
              · exact h
              · rw [List.getElem?_eq_none h] at hb; cases hb
            have h2 := HDL.out.ok.len
            have h3 := HM.out.1
            dsimp only at h2
            omega
          have hiL : i < L.length := by rw [HM.out.1]; exact hi
          have hii : (i : Int) < (L.length : Int) := by omega
          have HM2 := Lib.hid (HM.out.step i hi b hb)
          have HD3 := Lib.hid (HDL.out.kept (u := w3) (hg3.block _ HDL.out.ltB (fun e => by cases e; omega)) (hg3.block _ HDL.out.ltL (fun e => by cases e; omega)) (hg3.block _ HDL.out.ltM (fun e => by cases e; omega)))
          have HO3 := Lib.hid (HOL.out.andNew (r := rn) ((OnlyS.refl (rn :: [B, bl, bm]) wr).grown (by simp) hg3) hnw)
          have HRG3 := Lib.hid hrg3
          have HBL := Lib.hid hcl
          have HLT := Lib.hid hlt3
          have HLE := Lib.hid HRG.out.left_eq
          clear ez hkey hlk hv hat hrg3 hlt3 hg3 hs3 hwx hcl ec hhas hx0 hb hi HM HDL HOL HRG
          have hZ : (secCells Mt.blank).size = 128 := by rw [secCells_size]; exact Mt.blank_length
          have HZ := Lib.hid hZ
          clear hZ
          generalize hZ : secCells Mt.blank = Z at HZ
          go_wp2_with (first | (refine wpList_alloc_sec rfl rfl ?_; rw [hZ]) | (refine wpList_store_sec rfl _ _ rfl w3.heap.size _ _ rfl rfl HBL.out (heap_alloc_new _ _) HZ.out ?_; rw [setRow_alloc]))
          go_frame
          have hd4 := HD3.out.alloc (.cells (secCells b) 72)
          have hg4 := heap_alloc_new w3 (.cells (secCells b) 72)
          have HB4 := Lib.hid (HO3.out.alloc (.cells (secCells b) 72))
          have HRG4 := Lib.hid (HRG3.out.alloc (.cells (secCells b) 72))
          generalize (w3.alloc (.cells (secCells b) 72)) = w4 at hd4 hg4 HB4 HRG4 ⊢
          generalize w3.heap.size = n3 at *
          have hc0 := hd4.c0
          dsimp only at hc0
          have HD4 := Lib.hid hd4
          have HLD := Lib.hid (load_own w4.drew n3 b HBL.out hg4)
          clear hd4 hg4 HD3 HO3 HRG3 hen
          refine wp_region_still_tail 7 (by kernel_rfl) (by kernel_rfl) ?_
          simp only [List.take_succ_cons, List.take_zero, List.drop_succ_cons, List.drop_zero]
          still_step
          still_step
          still_step
          still_step
          still_step
          refine wpStill_step (fun K hK => still_load5 rfl 72 (.tmp 5) rfl ⟨n3, 0, none⟩ (secV b) rfl HLD.out (hK _ ?_))
          clear hK K
          still_step
          refine wpStill_nil ?_
          change wpList _ _ _ _ _ w4.drew
          have HPT := Lib.hid (HD4.out.drew.put i hiL b HBL.out)
          have HO4 := Lib.hid ((HB4.out.drew).setRow (g := bl) (by simp) (flat (L.set i b)))
          have hrd : w4.drew.ranges Tryz.prog 3 secElem bm rn (Maps.size D) D (fun z => left z && !z.sameKey (.int .i64 (i : Int))) cnt3 := HRG4.out
          have HRG5 := Lib.hid (hrd.kept (grownBy_setRow w4.drew bl (flat (L.set i b))) (fun e => by have := HD4.out.neML; cases e; exact this rfl) (fun e => by cases e; omega))
          refine wpList_store_run rfl 72 (.tmp 33) (.tmp 32) rfl _ _ rfl rfl _ HPT.out.1 ?_
          have HN := Lib.hid HPT.out.2
          clear HPT HD4 HB4 HRG4 HLD hrd
          dsimp only at HN HO4
          generalize (w4.drew.setRow bl (flat (L.set i b))) = w5 at HN HO4 HRG5 ⊢
          go_wp2_with fail
          go_frame
          go_roundw
          case rel => exact ⟨_, cnt3, _, HRG5, HM2, HN, HO4⟩
          case measure => rw [HRG5.out.left_eq, HLE.out]; exact HLT.out
    · have e : d.flush = (d.count.1, d.count.2) := by unfold Mt.Dk.flush; rw [hoff, if_neg hc]; rfl
      rw [e]
      obtain ⟨r, hr⟩ : ∃ r, d.count.2 = r := ⟨_, rfl⟩
      rw [hr] at hc HC ⊢
      have hne2 : (r != 0) = true := by simpa using hc
      rw [hoff] at h3
      generalize d.count.1 = q at *
      clear e h hoff hr hc
      go_enter Tryz.func57, Tryz.ntmps57
      go_wp2_with fail
      refine (HC.out).mono ?_
      rintro e w2 ⟨rfl, hd, ho⟩
      have HD2 := Lib.hid hd
      have HO2 := Lib.hid ho
      clear hd ho
      go_wp2_with fail
      go_ret
      exact ⟨rfl, HD2.out, HO2.out⟩
end
end Go.Proofs.YtnioagojiipjlaaGreat

/-
  What Lay and Image come to.
-/
namespace Go.Proofs.YtnioagojiipjlaaGreat
open Go.RowKit Go.Maps

/-- A sector out of the first bytes of a text. -/
def Mt.sec1 (s : List UInt8) : List UInt8 := s.take 128 ++ List.replicate (128 - s.length) 0
theorem Mt.sec1_length (s : List UInt8) : (Mt.sec1 s).length = 128 := by unfold Mt.sec1; rw [List.length_append, List.length_take, List.length_replicate]; omega
theorem Mt.layL_snoc : ∀ (k : Nat) (s : List UInt8), Mt.layL (k + 1) s = Mt.layL k s ++ [Mt.sec1 (s.drop (128 * k))]
  | 0, s => by simp [Mt.layL, Mt.sec1]
  | k + 1, s => by
    rw [Mt.layL, Mt.layL_snoc k (s.drop 128), List.drop_drop, show 128 + 128 * k = 128 * (k + 1) by omega]
    rfl
theorem build_sec (w : World) : (Instr.build 72 #[]).run Tryz.prog w = .ok (secV Mt.blank) w := by kernel_rfl
theorem Mt.mix_set (A L : List (List UInt8)) (k : Nat) (x : List UInt8) (hA : A.length = k) (hk : k < L.length) : (A ++ L.drop k).set k x = A ++ [x] ++ L.drop (k + 1) := by
  rw [List.set_append_right _ _ (by omega), hA, Nat.sub_self, List.drop_eq_getElem_cons hk, List.set_cons_zero, List.append_assoc]
  rfl

section
variable {ops : Array Oper} {rest : List Oper} {o : Oper} {a : Act} {w : World} {Q : Exit → Act → World → Prop} {B bl bm : Nat} {d : Mt.Dk}
/-- The first bytes of a text are copied into a sector of noughts. -/
theorem IsDisk.copy (h : IsDisk w B bl bm d) (i : Nat) (hi : i < d.lasts.length) (hz : d.lasts[i] = Mt.blank) (s : ByteArray) (ty : TypeId) :
    (Builtin.copy_ #[73, 9] ty #[.slice (some ⟨bl, i * 128, none⟩) 128 128, .string s]).run Tryz.prog w = .ok (goInt (Nat.min s.size 128)) (w.setRow bl (flat (d.lasts.set i (Mt.sec1 s.data.toList)))) := by
  have hf := flat_size d.lasts h.ok.lasts
  have hl : s.data.toList.length = s.size := rfl
  obtain ⟨n, hn⟩ : ∃ n, Nat.min s.size 128 = n := ⟨_, rfl⟩
  have hn1 : n ≤ 128 := by rw [← hn]; exact Nat.min_le_right _ _
  have hn2 : n ≤ s.size := by rw [← hn]; exact Nat.min_le_left _ _
  have hr := run_copy_str (P := Tryz.prog) w 73 9 ty 5 bl (i * 128) 128 128 n s (flat d.lasts) 72 Tryz.underlying73 Tryz.szU8 h.secs hn (by rw [hf]; omega)
  have hp := flat_put d.lasts h.ok.lasts i n hi (s.data.toList.take n) (by rw [List.length_take]; omega) hn1
  rw [Nat.mul_comm 128 i] at hp
  rw [hn, hr, hp, hz]
  have e : s.data.toList.take n ++ Mt.blank.drop n = Mt.sec1 s.data.toList := by
    unfold Mt.sec1 Mt.blank
    rw [List.drop_replicate]
    rcases Nat.le_total s.size 128 with h1 | h1
    · have : n = s.size := by rw [← hn]; exact Nat.min_eq_left h1
      subst this
      rw [List.take_of_length_le (by omega), List.take_of_length_le (by omega), hl]
    · have : n = 128 := by rw [← hn]; exact Nat.min_eq_right h1
      subst this
      rw [hl, show 128 - s.size = 128 - 128 by omega]
  rw [e]

theorem lay_nil (s : ByteArray) (w : World) : Calls Tryz.prog 9 #[.pointer none, .string s] w fun e w' => e = .returned (.tuple #[]) ∧ w = w' := by
  go_enter Tryz.func9, Tryz.ntmps9
  go_wp2
  refine bodyPost_ret (results_none rfl _ _ _) rfl ?_
  exact ⟨rfl, rfl⟩

set_option maxHeartbeats 1000000 in
set_option maxRecDepth 100000 in
theorem lay_any (h : IsDisk w B bl bm d) (s : ByteArray) : Calls Tryz.prog 9 #[.pointer (some ⟨B, 0, none⟩), .string s] w fun e w' => e = .returned (.tuple #[]) ∧ IsDisk w' B bl bm (d.lay s.data.toList) ∧ OnlyS [B, bl, bm] w w' := by
  have HD := Lib.hid h
  have h0 := h.c0
  have hn8 := h.ok.most
  clear h
  obtain ⟨n, hn⟩ : ∃ n, d.lasts.length = n := ⟨_, rfl⟩
  have HN := Lib.hid hn
  rw [hn] at h0 hn8
  clear hn
  have HZZ := Lib.hid (show Value.agg Tryz.zeroCells72 = secV Mt.blank by kernel_rfl)
  go_enter Tryz.func9, Tryz.ntmps9
  go_wp2_with fail
  go_loopw [1, 12] (fun v i wr => ∃ (k : Nat) (S : ByteArray), k ≤ n ∧ i = .int .i64 k ∧ v = .string S ∧ Hid (S.data.toList = s.data.toList.drop (128 * k)) ∧ Hid (IsDisk wr B bl bm { d with lasts := Mt.layL k s.data.toList ++ d.lasts.drop k }) ∧ Hid (OnlyS [B, bl, bm] w wr))
    (fun _ i _ => n - (intOf i).toNat)
  case atStart => exact ⟨0, s, by omega, rfl, rfl, Lib.hid (by simp), by simpa [Mt.layL] using HD, Lib.hid (OnlyS.refl _ _)⟩
  case round =>
    clear HD h0
    obtain ⟨k, S, hk, rfl, rfl, HS, HDK, HOK⟩ := hrel
    by_cases hlt : k < n
    · have hki : (k : Int) < (n : Int) := by omega
      have hLL : (Mt.layL k s.data.toList ++ d.lasts.drop k).length = n := by rw [List.length_append, Mt.layL_length, List.length_drop, HN.out]; omega
      have h0 := HDK.out.c0
      dsimp only at h0
      rw [hLL] at h0
      have HLL := Lib.hid hLL
      have HPT := Lib.hid (HDK.out.put k (by show k < (Mt.layL k s.data.toList ++ d.lasts.drop k).length; omega) Mt.blank Mt.blank_length)
      clear hLL
      have HD2 := Lib.hid HPT.out.2
      have HO2 := Lib.hid (HOK.out.setRow (g := bl) (by simp) (flat ((Mt.layL k s.data.toList ++ d.lasts.drop k).set k Mt.blank)))
      have hst := HPT.out.1
      clear HPT
      have HST := Lib.hid hst
      clear hst
      have h02 := HD2.out.c0
      dsimp only at h02 HD2 HO2
      rw [List.length_set, HLL.out] at h02
      have HCP := Lib.hid (fun ty => HD2.out.copy k (by show k < ((Mt.layL k s.data.toList ++ d.lasts.drop k).set k Mt.blank).length; rw [List.length_set, HLL.out]; exact hlt) (by simp) S ty)
      have HN4 := Lib.hid (HD2.out.setSecs (((Mt.layL k s.data.toList ++ d.lasts.drop k).set k Mt.blank).set k (Mt.sec1 S.data.toList)) (HD2.out.ok.putSec k _ (Mt.sec1_length _)) (by simp))
      have HO4 := Lib.hid (HO2.out.setRow (g := bl) (by simp) (flat (((Mt.layL k s.data.toList ++ d.lasts.drop k).set k Mt.blank).set k (Mt.sec1 S.data.toList))))
      have HEQ : Hid (((Mt.layL k s.data.toList ++ d.lasts.drop k).set k Mt.blank).set k (Mt.sec1 S.data.toList) = Mt.layL (k + 1) s.data.toList ++ d.lasts.drop (k + 1)) := Lib.hid (by
        rw [List.set_set, Mt.mix_set _ _ k _ (Mt.layL_length _ _) (by rw [HN.out]; exact hlt), HS.out, Mt.layL_snoc])
      dsimp only at HCP HN4 HO4
      rw [HEQ.out] at HCP HN4 HO4
      obtain ⟨m, hm⟩ : ∃ m, Nat.min S.size 128 = m := ⟨_, rfl⟩
      have hm1 : m ≤ S.size := by rw [← hm]; exact Nat.min_le_left _ _
      have hm2 : (m : Int) ≤ (S.size : Int) := by omega
      have HS2 : Hid ((S.extract m S.size).data.toList = s.data.toList.drop (128 * (k + 1))) := Lib.hid (by
        rw [Mt.extract_list, HS.out, List.drop_drop]
        have hl : S.size = s.data.toList.length - 128 * k := by
          have h := congrArg List.length HS.out
          rw [List.length_drop] at h
          exact h
        rcases Nat.le_total S.size 128 with h1 | h1
        · have e : m = S.size := by rw [← hm]; exact Nat.min_eq_left h1
          rw [List.drop_of_length_le (by omega), List.drop_of_length_le (by omega)]
        · have e : m = 128 := by rw [← hm]; exact Nat.min_eq_right h1
          rw [e]; congr 1)
      rw [hm] at HCP
      clear hm
      generalize (wr.setRow bl (flat ((Mt.layL k s.data.toList ++ d.lasts.drop k).set k Mt.blank))) = w3 at *
      go_wp2_with (first | (refine wpList_store_run rfl 72 _ _ rfl _ (secV Mt.blank) rfl HZZ.out w3 HST.out ?_) | (refine wpList_copy_run _ rfl _ _ 73 9 rfl _ _ rfl rfl HCP.out ?_))
      go_roundw
      case rel => exact ⟨k + 1, _, by omega, by go_num, rfl, HS2, HN4, HO4⟩
      case measure => simp [intOf]; omega
    · obtain rfl : k = n := by omega
      have HN4 : Hid (IsDisk wr B bl bm { d with lasts := Mt.layL d.lasts.length s.data.toList }) := Lib.hid (by
        have h := HDK.out
        rw [← HN.out, List.drop_length, List.append_nil] at h
        exact h)
      have hc1 := HDK.out.c1
      obtain ⟨u, hu, hdu, hou⟩ := HN4.out.clear 0
      have hu' : ∀ ty, (Builtin.clear_ #[62] ty #[.map (some bm)]).run Tryz.prog wr = .ok (.tuple #[]) u := fun ty => hu
      have HU := Lib.hid hu'
      have HDU := Lib.hid hdu
      have HOU := Lib.hid (HOK.out.trans hou)
      clear hu hu' hdu hou HDK HN4 HOK
      go_wp2_with (refine wpList_clear_run rfl _ rfl _ rfl u HU.out ?_)
      refine bodyPost_end (results_none rfl _ _ _) rfl ?_
      refine ⟨rfl, ?_, HOU.out⟩
      have h := HDU.out
      rw [Mt.layL_length] at h
      exact h

theorem image_nil (w : World) : Calls Tryz.prog 14 #[.pointer none] w fun e w' => e = .returned (.string ByteArray.empty) ∧ w = w' := by
  go_enter Tryz.func14, Tryz.ntmps14
  go_wp2
  go_ret
  exact ⟨rfl, rfl⟩

theorem Mt.flatten_take (L : List (List UInt8)) (k : Nat) (hk : k < L.length) : (L.take (k + 1)).flatten = (L.take k).flatten ++ L[k] := by
  rw [List.take_succ_eq_append_getElem hk, List.flatten_append, List.flatten_cons, List.flatten_nil, List.append_nil]
theorem Mt.flatten_len (L : List (List UInt8)) (k : Nat) (hk : k ≤ L.length) (h : ∀ i (h : i < L.length), (L[i]).length = 128) : (L.take k).flatten.length = k * 128 := by
  have hc : (Mt.cs (L.take k).flatten).length = k * 128 := by
    have := flat_size (L.take k) (fun i hi => by
      rw [List.getElem_take]; exact h i (by rw [List.length_take] at hi; omega))
    unfold flat at this
    rw [List.size_toArray, List.length_take, Nat.min_eq_left hk] at this
    omega
  rwa [Mt.cs_length] at hc

set_option maxHeartbeats 1000000 in
set_option maxRecDepth 100000 in
theorem image_any (h : IsDisk w B bl bm d) : Calls Tryz.prog 14 #[.pointer (some ⟨B, 0, none⟩)] w fun e w' => e = .returned (.string (Mt.str d.image)) ∧ Below w.heap.size w w' := by
  obtain ⟨i0, hi, hz0, hz1, hz2⟩ := info_parts Tryz.infoU8
  have HD := Lib.hid h
  have h0 := h.c0
  have hlt := h.ltB
  have hn8 := h.ok.most
  clear h
  obtain ⟨n, hn⟩ : ∃ n, d.lasts.length = n := ⟨_, rfl⟩
  have HN := Lib.hid hn
  rw [hn] at h0 hn8
  clear hn
  have HDC : Hid (∀ w1, w.grownBy w1 none → w1.cell? ⟨B, 0, none⟩ = some (.slice (some ⟨bl, 0, none⟩) n n)) := Lib.hid (fun w1 hg => by
    have hb : Below w.heap.size w w1 := (Below.refl w.heap.size w).grown hg (Nat.le_refl _) (fun k hk => by cases hk)
    rw [hb.cell (p := ⟨B, 0, none⟩) hlt]; exact h0)
  go_enter Tryz.func14, Tryz.ntmps14
  go_wp2_with (refine wpList_make_own _ rfl _ _ 73 rfl w.heap.size 5 i0 (.int .u8 0) 1 Tryz.underlying73 hi hz0 hz1 .i64 .i64 _ (n * 128) rfl rfl (by omega) (by rw [hz2]; omega) (by unfold maxLen; omega) (Nat.le_refl _) ?_; intro w1 hown1 hgrow1; have h01 := HDC.out w1 hgrow1)
  have HO1 := Lib.hid hown1
  have HB1 := Lib.hid ((Below.refl w.heap.size w).grown hgrow1 (Nat.le_refl _) (fun k hk => by cases hk))
  have HD1 := Lib.hid (HD.out.below HB1.out)
  have HLT := Lib.hid (show B < w.heap.size ∧ bl < w.heap.size ∧ bm < w.heap.size from ⟨hlt, HD.out.ltL, HD.out.ltM⟩)
  clear hown1 hgrow1 HD h0 h01 HDC
  go_loopw [3, 19] (fun v i wr => ∃ k : Nat, k ≤ n ∧ i = .int .i64 k ∧ v = .slice (some ⟨w.heap.size, 0, none⟩) (k * 128) (n * 128) ∧ Hid (wr.ownsRow w.heap.size 5 1 (.slice (some ⟨w.heap.size, 0, none⟩) (k * 128) (n * 128)) (k * 128) (Mt.cs (d.lasts.take k).flatten)) ∧ Hid (Below w.heap.size w wr) ∧ Hid (IsDisk wr B bl bm d))
    (fun _ i _ => n - (intOf i).toNat)
  case atStart => exact ⟨0, by omega, rfl, by simp, by simpa [Mt.cs] using HO1, HB1, HD1⟩
  case round =>
    clear HO1 HB1 HD1
    obtain ⟨k, hk, rfl, rfl, HO, HB, HDK⟩ := hrel
    by_cases hlt2 : k < n
    · have hki : (k : Int) < (n : Int) := by omega
      have h0 := HDK.out.c0
      rw [HN.out] at h0
      have hkl : k < d.lasts.length := by rw [HN.out]; exact hlt2
      have HLS := Lib.hid (HDK.out.ok.lasts k hkl)
      have HCELL := Lib.hid (show ∀ (j : Nat) u, (Mt.cs (d.lasts[k]))[j]? = some u → wr.cell? ((⟨bl, k * 128, none⟩ : Addr).add j) = some u from fun j u hu => by
        obtain ⟨hj, rfl⟩ := Mt.cs_getD _ j u hu
        rw [add_off, cell_of_row _ _ _ _ _ _ HDK.out.secs, Nat.mul_comm k 128]
        exact flat_get d.lasts HDK.out.ok.lasts k j hkl (by rw [← HLS.out]; exact hj))
      have HFT := Lib.hid (Mt.flatten_take d.lasts k hkl)
      go_wp2_with (refine wpList_append_fits _ rfl _ _ 73 rfl w.heap.size 5 i0 1 Tryz.underlying73 hi hz1 w.heap.size (k * 128) (n * 128) _ rfl HO.out ⟨bl, k * 128, none⟩ 128 128 (Mt.cs (d.lasts[k])) rfl (by rw [Mt.cs_length, HLS.out]) HCELL.out (Mt.cs_one _) (by omega) ?_; intro w3 hown3 hgrow3)
      have e1 : k * 128 + 128 = (k + 1) * 128 := by omega
      rw [e1, ← Mt.cs_append, ← HFT.out] at hown3
      have HO3 := Lib.hid hown3
      have HB3 := Lib.hid (HB.out.grown hgrow3 HB.out.size (fun j hj => by cases hj; exact Nat.le_refl _))
      have HD3 := Lib.hid (HDK.out.kept (u := w3) (hgrow3.block _ HDK.out.ltB (fun e => by cases e; exact Nat.lt_irrefl _ HLT.out.1)) (hgrow3.block _ HDK.out.ltL (fun e => by cases e; exact Nat.lt_irrefl _ HLT.out.2.1)) (hgrow3.block _ HDK.out.ltM (fun e => by cases e; exact Nat.lt_irrefl _ HLT.out.2.2)))
      clear hown3 hgrow3 HO HB HDK HCELL HFT h0
      go_roundw
      case rel => exact ⟨k + 1, by omega, by go_num, by rw [e1], HO3, HB3, HD3⟩
      case measure => simp [intOf]; omega
    · obtain rfl : k = n := by omega
      have HCV : Hid ((convert 73 9 (.slice (some ⟨w.heap.size, 0, none⟩) (k * 128) (k * 128))).run Tryz.prog wr = .ok (.string (Mt.str d.image)) wr) := Lib.hid (by
        have hl : d.image.length = k * 128 := by rw [Mt.Dk.image_length HDK.out.ok, HN.out]; omega
        have h := run_convert_bytes_back (P := Tryz.prog) wr 73 9 5 ⟨w.heap.size, 0, none⟩ (k * 128) d.image Tryz.underlying73 Tryz.underlying5 Tryz.underlying9 (fun j hj => by
          rw [add_off, Nat.zero_add, HO.out.cellAt j (by omega)]
          have e : (d.lasts.take k).flatten = d.image := by rw [← HN.out, List.take_length]; rfl
          rw [e]
          simp [Mt.cs, List.getElem?_eq_getElem hj])
        rw [hl] at h
        exact h)
      have hcv := HCV.out
      clear HCV HO
      go_wp2_with fail
      go_ret
      exact ⟨rfl, HB.out⟩
end
end Go.Proofs.YtnioagojiipjlaaGreat
