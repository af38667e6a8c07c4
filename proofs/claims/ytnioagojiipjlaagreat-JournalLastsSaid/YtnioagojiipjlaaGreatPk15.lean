/-
  Some texts of one proof, one behind the other.
-/
import Derived.Test.YtnioagojiipjlaaGreatPk14
set_option linter.unusedVariables false
set_option linter.unusedSimpArgs false

/-
  What the document's disk's small calls come to: Room, Limit, On, Cut, Read.
-/
namespace Go.Proofs.YtnioagojiipjlaaGreat
open Go.RowKit Go.Maps

theorem slc_form (n b c : Nat) : ∃ a, slc n b c = .slice a n c := ⟨_, rfl⟩

section
variable {w : World} {g : Rg} {d : Mt.Dk} {lim : Bool} {most : Nat} {tv : Value} {tn : Nat} {tcs : List Value}

theorem eroom_rd (h : RD w g d lim most tv tn tcs) : Calls Tryz.prog 49 #[.pointer (some ⟨g.R, 0, none⟩)] w fun e w' => e = .returned (.int .i64 (d.room : Int)) ∧ w = w' := by
  have h0 := h.c0
  have h2 := h.c2
  have h3 := h.c3
  have HR := Lib.hid h.room
  obtain ⟨a, ha⟩ := slc_form d.lasts.length g.bl g.cl
  rw [ha] at h0
  clear h ha
  generalize d.lasts.length = n at *
  generalize d.room = r at *
  cases lim with
  | false =>
    go_enter Tryz.func49, Tryz.ntmps49
    go_wp2
    go_ret
    exact ⟨Mt.ret_int (by rw [HR.out]; simp), rfl⟩
  | true =>
    by_cases hm : most < n
    · have hm' : (most : Int) < (n : Int) := by omega
      go_enter Tryz.func49, Tryz.ntmps49
      go_wp2
      go_ret
      exact ⟨Mt.ret_int (by rw [HR.out]; simp [hm]), rfl⟩
    · have hm' : decide ((most : Int) < (n : Int)) = false := decide_eq_false (by omega)
      go_enter Tryz.func49, Tryz.ntmps49
      go_wp2
      go_ret
      exact ⟨Mt.ret_int (by rw [HR.out]; simp [hm]), rfl⟩
theorem eroom_any {t : Nat} (h : IsR w g t d) : Calls Tryz.prog 49 #[.pointer (some ⟨g.R, 0, none⟩)] w fun e w' => e = .returned (.int .i64 (d.room : Int)) ∧ w = w' := by
  obtain ⟨_, _, _, _, _, h, _⟩ := h
  exact eroom_rd h

theorem elimit_any {t : Nat} (h : IsR w g t d) (n : Int) (hn : n ≤ 9223372036854775807) : Calls Tryz.prog 25 #[.pointer (some ⟨g.R, 0, none⟩), .int .i64 n] w fun e w' => e = .returned (.tuple #[]) ∧ IsR w' g t (d.limit n) ∧ Fr g w w' := by
  obtain ⟨lim, most, tv, tn, tcs, h, ht⟩ := h
  have c2 := h.c2
  have c3 := h.c3
  have f2 := h.f 2
  have f3 := h.f 3
  have HP := Lib.hid (show ∀ k : Int, k = (n.toNat : Int) → IsR ((w.setCell ⟨g.R, 2, none⟩ (.bool true)).setCell ⟨g.R, 3, none⟩ (.int .i64 k)) g t (d.limit n) ∧ Fr g w ((w.setCell ⟨g.R, 2, none⟩ (.bool true)).setCell ⟨g.R, 3, none⟩ (.int .i64 k)) from fun k hk => by
    subst hk
    refine ⟨⟨true, n.toNat, tv, tn, tcs, ?_, ht⟩, ((Fr.refl _ _).setCell (.inl rfl) _).setCell (.inl rfl) _⟩
    -- in between the room isn't right: so the two writes are taken together
    have h1 : RD (w.setCell ⟨g.R, 2, none⟩ (.bool true)) g { d with room := if most < d.lasts.length then most else d.lasts.length } true most tv tn tcs := h.field 2 _ { d with room := if most < d.lasts.length then most else d.lasts.length } true most tv tn tcs ⟨h.ok.len, h.ok.most, h.ok.lasts, h.ok.waits, by show (if most < d.lasts.length then most else d.lasts.length) ≤ d.lasts.length; split <;> omega, h.ok.cut, h.ok.keep, h.ok.torn, h.ok.at'⟩ rfl rfl rfl (by simp) h.most h.tears
    refine h1.field 3 _ (d.limit n) true n.toNat tv tn tcs (h.ok.limit n) rfl rfl rfl ?_ (by omega) h1.tears
    show min n.toNat d.lasts.length = _
    have e : (d.limit n).lasts.length = d.lasts.length := rfl
    rw [e]
    by_cases hl : n.toNat < d.lasts.length
    · rw [if_pos ⟨rfl, hl⟩]; omega
    · rw [if_neg (fun h => hl h.2)]; omega)
  clear h ht
  by_cases hn0 : n ≤ 0
  · go_enter Tryz.func25, Tryz.ntmps25
    go_wp2
    refine bodyPost_end (results_none rfl _ _ _) rfl ?_
    exact ⟨rfl, HP.out _ (by omega)⟩
  · go_enter Tryz.func25, Tryz.ntmps25
    go_wp2
    refine bodyPost_end (results_none rfl _ _ _) rfl ?_
    exact ⟨rfl, HP.out _ (by omega)⟩

theorem eon_any {t : Nat} (h : IsR w g t d) : Calls Tryz.prog 31 #[.pointer (some ⟨g.R, 0, none⟩)] w fun e w' => e = .returned (.tuple #[]) ∧ IsR w' g t d.on ∧ Fr g w w' := by
  obtain ⟨lim, most, tv, tn, tcs, h, ht⟩ := h
  have c4 := h.c4
  have c5 := h.c5
  have f4 := h.f 4
  have f5 := h.f 5
  have HP : Hid (IsR ((w.setCell ⟨g.R, 4, none⟩ (.bool false)).setCell ⟨g.R, 5, none⟩ (.int .i64 0)) g t d.on ∧ Fr g w ((w.setCell ⟨g.R, 4, none⟩ (.bool false)).setCell ⟨g.R, 5, none⟩ (.int .i64 0))) := Lib.hid (by
    refine ⟨⟨lim, most, tv, tn, tcs, ?_, ht⟩, ((Fr.refl _ _).setCell (.inl rfl) _).setCell (.inl rfl) _⟩
    exact ((h.field 4 _ { d with off := false } lim most tv tn tcs (h.ok.setOff false) rfl rfl rfl h.room h.most h.tears).field 5 _ d.on lim most tv tn tcs h.ok.on rfl rfl rfl h.room h.most (own_at h.tears fun k h1 _ => heap_setCell_other _ _ _ _ (by have := h.ltR; show k ≠ g.R; omega))))
  clear h ht
  go_enter Tryz.func31, Tryz.ntmps31
  go_wp2
  refine bodyPost_end (results_none rfl _ _ _) rfl ?_
  exact ⟨rfl, HP.out⟩

theorem RD.setCut (h : RD w g d lim most tv tn tcs) (k a : Nat) (b c : Int) (hk : k ≤ 9223372036854775807) (ha : a < 18446744073709551616) (hb : -9223372036854775808 ≤ b ∧ b ≤ 9223372036854775807) (hc : -9223372036854775808 ≤ c ∧ c ≤ 9223372036854775807) :
    RD ((((w.setCell ⟨g.R, 5, none⟩ (.int .i64 (k : Int))).setCell ⟨g.R, 6, none⟩ (.int .u64 (a : Int))).setCell ⟨g.R, 7, none⟩ (.int .i64 b)).setCell ⟨g.R, 8, none⟩ (.int .i64 c)) g (d.cutAt k a b c) lim most tv tn tcs := by
  have o := h.ok
  have o1 : ({ d with cut := k } : Mt.Dk).Ok := o.setCut k hk
  have o2 : ({ d with cut := k, keep := a } : Mt.Dk).Ok := ⟨o.len, o.most, o.lasts, o.waits, o.room, hk, ha, o.torn, o.at'⟩
  have o3 : ({ d with cut := k, keep := a, torn := b } : Mt.Dk).Ok := ⟨o.len, o.most, o.lasts, o.waits, o.room, hk, ha, hb, o.at'⟩
  have o4 : (d.cutAt k a b c).Ok := ⟨o.len, o.most, o.lasts, o.waits, o.room, hk, ha, hb, hc⟩
  have h1 := h.field 5 (.int .i64 (k : Int)) _ lim most tv tn tcs o1 rfl rfl rfl h.room h.most h.tears
  have h2 := h1.field 6 (.int .u64 (a : Int)) _ lim most tv tn tcs o2 rfl rfl rfl h.room h.most h1.tears
  have h3 := h2.field 7 (.int .i64 b) _ lim most tv tn tcs o3 rfl rfl rfl h.room h.most h2.tears
  exact h3.field 8 (.int .i64 c) _ lim most tv tn tcs o4 rfl rfl rfl h.room h.most h3.tears
set_option maxRecDepth 100000 in
theorem ecut_any {t : Nat} (h : IsR w g t d) (n : Int) (a : Nat) (b c : Int) (hn : n ≤ 9223372036854775807) (ha : a < 18446744073709551616) (hb : -9223372036854775808 ≤ b ∧ b ≤ 9223372036854775807) (hc : -9223372036854775808 ≤ c ∧ c ≤ 9223372036854775807) :
    Calls Tryz.prog 23 #[.pointer (some ⟨g.R, 0, none⟩), .int .i64 n, .agg #[.int .u64 (a : Int), .int .i64 b, .int .i64 c]] w fun e w' => e = .returned (.tuple #[]) ∧ IsR w' g t (d.cutAt n.toNat a b c) ∧ Fr g w w' := by
  obtain ⟨lim, most, tv, tn, tcs, h, ht⟩ := h
  have hsz := h.size
  have HP := Lib.hid (show ∀ k : Int, k = (n.toNat : Int) → IsR (((((w.setCell ⟨g.R, 5, none⟩ (.int .i64 k)).setCell ⟨g.R, 6, none⟩ (.int .u64 (a : Int))).setCell ⟨g.R, 7, none⟩ (.int .i64 b)).setCell ⟨g.R, 8, none⟩ (.int .i64 c)).alloc (.cells #[.int .u64 (a : Int), .int .i64 b, .int .i64 c] 42)) g t (d.cutAt n.toNat a b c)
      ∧ Fr g w (((((w.setCell ⟨g.R, 5, none⟩ (.int .i64 k)).setCell ⟨g.R, 6, none⟩ (.int .u64 (a : Int))).setCell ⟨g.R, 7, none⟩ (.int .i64 b)).setCell ⟨g.R, 8, none⟩ (.int .i64 c)).alloc (.cells #[.int .u64 (a : Int), .int .i64 b, .int .i64 c] 42)) from fun k hk => by
    subst hk
    have hS := h.setCut n.toNat a b c (by omega) ha hb hc
    exact ⟨⟨lim, most, tv, tn, tcs, hS.alloc _, ht⟩, (((((Fr.refl g w).setCell (.inl rfl) _).setCell (.inl rfl) _).setCell (.inl rfl) _).setCell (.inl rfl) _).alloc hS.size _⟩)
  have c5 := h.c5
  have c6 := h.c6
  have c7 := h.c7
  have c8 := h.c8
  have f5 := h.f 5
  have f6 := h.f 6
  have f7 := h.f 7
  have f8 := h.f 8
  have hlt : g.R < w.heap.size := Nat.lt_of_lt_of_le h.ltR hsz
  clear h ht ha hb hc
  go_enter Tryz.func23, Tryz.ntmps23
  go_wp2
  all_goals
    refine bodyPost_end (results_none rfl _ _ _) rfl ?_
    exact ⟨rfl, HP.out _ (by omega)⟩

theorem txt_ne {a b : List UInt8} (h : a ≠ b) : ((Mt.str a).toList == (Mt.str b).toList) = false := by
  rw [beq_eq_false_iff_ne]
  intro e
  apply h
  rw [ByteArray.toList_eq, ByteArray.toList_eq] at e
  exact e
theorem str_empty {b : List UInt8} (h : b.length = 128) : (Mt.str b).toList.isEmpty = false := by
  rw [ByteArray.toList_eq]
  cases b with
  | nil => cases h
  | cons x r => rfl
theorem eread_any {t : Nat} (h : IsR w g t d) (i : Int) : Calls Tryz.prog 41 #[.pointer (some ⟨g.R, 0, none⟩), .int .i64 i] w fun e w' => e = .returned (.tuple #[.string (Mt.str (d.read i).1), .int .i64 (d.read i).2]) ∧ w = w' := by
  obtain ⟨lim, most, tv, tn, tcs, h, ht⟩ := h
  have c4 := h.c4
  have c0 := h.c0
  have c1 := h.c1
  cases hoff : d.off with
  | true =>
    have e : d.ask i = 10 := by unfold Mt.Dk.ask; rw [hoff]; rfl
    rw [Mt.read_no d i (by rw [e]; decide), e]
    rw [hoff] at c4
    clear h ht e hoff c0 c1
    go_enter Tryz.func41, Tryz.ntmps41
    go_wp2
    go_ret2
    exact ⟨rfl, rfl⟩
  | false =>
    rw [hoff] at c4
    by_cases hi : i < 0 ∨ (d.lasts.length : Int) ≤ i
    · have e : d.ask i = 2 := by unfold Mt.Dk.ask; rw [hoff]; simp [hi]
      rw [Mt.read_no d i (by rw [e]; decide), e]
      obtain ⟨a, ha⟩ := slc_form d.lasts.length g.bl g.cl
      rw [ha] at c0
      clear h ht e hoff ha
      generalize d.lasts.length = n at *
      by_cases h1 : i < 0
      · go_enter Tryz.func41, Tryz.ntmps41
        go_wp2
        go_ret2
        exact ⟨rfl, rfl⟩
      · have h1' : decide (i < 0) = false := decide_eq_false h1
        have h2 : (n : Int) ≤ i := by omega
        clear hi
        go_enter Tryz.func41, Tryz.ntmps41
        go_wp2
        go_ret2
        exact ⟨rfl, rfl⟩
    · have e : d.ask i = 0 := by unfold Mt.Dk.ask; rw [hoff, if_neg hi]; rfl
      rw [Mt.read_yes d i e]
      obtain ⟨k, rfl⟩ : ∃ k : Nat, i = k := ⟨i.toNat, by omega⟩
      have hk : k < d.lasts.length := by omega
      rw [Int.toNat_natCast]
      rw [slc_pos (by omega)] at c0 c1
      have cw := h.cW k hk
      have cl := h.cL k hk
      unfold waitT at cw
      unfold lastT at cl
      have h1' : decide ((k : Int) < 0) = false := decide_eq_false (by omega)
      have h2' : decide ((d.lasts.length : Int) ≤ (k : Int)) = false := decide_eq_false (by omega)
      have h3' : (k : Int) < (d.lasts.length : Int) := by omega
      have hk0 : (0 : Int) ≤ (k : Int) := by omega
      have hl : k < d.waits.length := by rw [h.ok.len]; exact hk
      cases hx : d.waits.getD k none with
      | none =>
        rw [hx] at cw
        clear h ht e hoff hx hl hi hk
        generalize d.lasts.length = n at *
        have cw' : w.cell? ⟨g.bw, k, none⟩ = some (.string ByteArray.empty) := cw
        clear cw
        go_enter Tryz.func41, Tryz.ntmps41
        go_wp2
        go_ret2
        exact ⟨rfl, rfl⟩
      | some b =>
        rw [hx] at cw
        have cw' : w.cell? ⟨g.bw, k, none⟩ = some (.string (Mt.str b)) := cw
        have hb : b.length = 128 := h.ok.waits k b (by
          rw [List.getElem?_eq_getElem hl]
          simpa [List.getD, List.getElem?_eq_getElem hl] using hx)
        have hne := str_empty hb
        clear h ht e hoff hx hl hi hk cw hb cl
        generalize d.lasts.length = n at *
        go_enter Tryz.func41, Tryz.ntmps41
        go_wp2
        go_ret2
        exact ⟨rfl, rfl⟩
end
end Go.Proofs.YtnioagojiipjlaaGreat
