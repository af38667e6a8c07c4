/-
  Some texts of one proof, one behind the other.
-/
import Derived.Laws.OwnMore
import Derived.Test.YtnioagojiipjlaaGreatPk49
import Derived.Test.YtnioagojiipjlaaGreatPk50
set_option linter.unusedVariables false
set_option linter.unusedSimpArgs false

/-
  The document's Mixed.
-/
namespace Go.Proofs.YtnioagojiipjlaaGreat
open Go.RowKit Go.Maps
theorem Mt.tearC_length : ∀ (T : List (List UInt8 × List UInt8 × List UInt8)), (Mt.tearC T).length = 3 * T.length
  | [] => rfl
  | x :: r => by
    have := Mt.tearC_length r
    unfold Mt.tearC at this ⊢
    rw [List.flatMap_cons, List.length_append, this, List.length_cons]
    simp only [List.length_cons, List.length_nil]
    omega
theorem Mt.tearC_at : ∀ (T : List (List UInt8 × List UInt8 × List UInt8)) (k : Nat) (h : k < T.length), (Mt.tearC T)[k * 3]? = some (.string (Mt.str T[k].1)) ∧ (Mt.tearC T)[k * 3 + 1]? = some (.string (Mt.str T[k].2.1)) ∧ (Mt.tearC T)[k * 3 + 2]? = some (.string (Mt.str T[k].2.2))
  | x :: r, 0, _ => ⟨rfl, rfl, rfl⟩
  | x :: r, k + 1, h => by
    have := Mt.tearC_at r k (by simpa using h)
    have e : ∀ i, (Mt.tearC (x :: r))[(k + 1) * 3 + i]? = (Mt.tearC r)[k * 3 + i]? := fun i => by
      unfold Mt.tearC
      rw [List.flatMap_cons, List.getElem?_append_right (by simp only [List.length_cons, List.length_nil]; omega)]
      congr 1
      simp only [List.length_cons, List.length_nil]
      omega
    have e0 := e 0
    rw [Nat.add_zero, Nat.add_zero] at e0
    rw [e0, e 1, e 2]
    exact this
section
variable {w : World} {g : Rg} {t : Nat} {d : Mt.Dk}
/-- Where the torn sectors lie. -/
theorem IsR.torn (h : IsR w g t d) : ∃ a c, w.cell? ⟨g.R, 9, none⟩ = some (.slice a d.tears.length c) ∧ g.R < w.heap.size ∧ d.tears.length ≤ t ∧ Hid (∀ (k : Nat) (hk : k < d.tears.length), ∃ G, a = some ⟨G, 0, none⟩ ∧ ∀ u, Below w.heap.size w u → (loadVar 98 ⟨G, k * 3, none⟩).run Tryz.prog u = .ok (.agg #[.string (Mt.str d.tears[k].1), .string (Mt.str d.tears[k].2.1), .string (Mt.str d.tears[k].2.2)]) u) := by
  obtain ⟨lim, most, tv, tn, tcs, h, hle, rfl⟩ := h
  have hn : tn = d.tears.length := by
    have := h.tears.1
    rw [Mt.tearC_length] at this
    omega
  subst hn
  have hR : g.R < w.heap.size := Nat.lt_of_lt_of_le h.ltR h.size
  have ht := h.tears
  rcases ht.2 with ⟨hv, h0⟩ | ⟨G, cap, cur, hv, h2, h3, _⟩
  · refine ⟨none, 0, by rw [h0]; exact h.c9.trans (congrArg some hv), hR, hle, Lib.hid fun k hk => ?_⟩
    rw [h0] at hk; omega
  · refine ⟨_, _, h.c9.trans (congrArg some hv), hR, hle, Lib.hid fun k hk => ⟨G, rfl, fun u hu => ?_⟩⟩
    subst hv
    obtain ⟨a0, a1, a2⟩ := Mt.tearC_at d.tears k hk
    have hG : G < w.heap.size := lt_of_block h3
    have hc : ∀ j v, (Mt.tearC d.tears)[j]? = some v → u.cell? ⟨G, j, none⟩ = some v := fun j v hj => by
      have hlt : j < d.tears.length * 3 := by
        rcases Nat.lt_or_ge j (d.tears.length * 3) with hh | hh
        · exact hh
        · rw [List.getElem?_eq_none (by rw [Mt.tearC_length]; omega)] at hj; cases hj
      rw [hu.cell (p := ⟨G, j, none⟩) hG, World.ownsRow.cellAt ht j hlt]
      exact hj
    refine run_loadVar_cells u 98 ⟨G, k * 3, none⟩ #[.string (Mt.str d.tears[k].1), .string (Mt.str d.tears[k].2.1), .string (Mt.str d.tears[k].2.2)] _ (fun j v hv => ?_) Tryz.underlying98 rfl (by kernel_rfl)
    rw [add_off]
    match j, hv with
    | 0, hv => cases hv; exact hc _ _ a0
    | 1, hv => cases hv; exact hc _ _ a1
    | 2, hv => cases hv; exact hc _ _ a2
theorem rdHead_isHd (s : List UInt8) : (Mt.rdHead s).1 ≠ 0 ↔ Mt.isHd s := by
  unfold Mt.rdHead
  split
  · rename_i h
    exact ⟨fun _ => h, fun _ => h.2.2.1⟩
  · rename_i h
    exact ⟨fun x => absurd rfl x, fun x => absurd x h⟩
set_option maxRecDepth 100000 in
set_option maxHeartbeats 1000000 in
theorem rmixed_any (h : IsR w g t d) (h128 : d.Torn128) (ht : t ≤ 1000000) : Calls Tryz.prog 29 #[.pointer (some ⟨g.R, 0, none⟩)] w fun e w' => ∃ b : Bool, e = .returned (.bool b) ∧ (b = false ↔ d.Clear) ∧ Below w.heap.size w w' := by
  obtain ⟨a, c, c9, hR, hle, hL⟩ := h.torn
  obtain ⟨N, hN⟩ : ∃ N, d.tears.length = N := ⟨_, rfl⟩
  have HN := Lib.hid hN
  rw [hN] at c9 hle
  have hN6 : N ≤ 1000000 := by omega
  have H128 := Lib.hid h128
  clear h h128 hN hle ht
  have HB := Lib.hid (Below.refl w.heap.size w)
  go_enter Tryz.func29, Tryz.ntmps29
  go_wp2_with fail
  go_loopw [15] (fun i wr => ∃ k : Nat, k ≤ N ∧ i = .int .i64 (k : Int) ∧ Hid ((∀ (j : Nat) (hj : j < d.tears.length), j < k → Mt.Plain d.tears[j]) ∧ Below w.heap.size w wr)) (fun i _ => N - (intOf i).toNat)
  case atStart => exact ⟨0, Nat.zero_le _, rfl, Lib.hid ⟨fun j hj h => by omega, HB.out⟩⟩
  case round =>
    obtain ⟨k, hk, rfl, HR⟩ := hrel
    clear c9 hR
    by_cases hkn : k < N
    · have d1 : decide ((k : Int) < (N : Int)) = true := decide_eq_true (by omega)
      have d2 : decide (k < N) = true := decide_eq_true hkn
      have d0 : (0 : Int) ≤ (k : Int) := by omega
      have hkt : k < d.tears.length := by rw [HN.out]; exact hkn
      obtain ⟨G, rfl, hld⟩ := hL.out k hkt
      replace hld := hld wr HR.out.2
      have HX := Lib.hid (H128.out _ (List.getElem_mem hkt))
      obtain ⟨⟨o, nw, gt⟩, hx⟩ : ∃ x, d.tears[k] = x := ⟨_, rfl⟩
      have HXX := Lib.hid hx
      rw [hx] at hld HX
      dsimp only at hld HX
      clear hx
      go_upto_region 4 with (refine wpList_load_run rfl 98 _ rfl _ _ rfl hld ?_)
      have HX2 := Lib.hid (heap_alloc_new wr (.cells #[.string (Mt.str o), .string (Mt.str nw), .string (Mt.str gt)] 98))
      have HB2 := Lib.hid (HR.out.2.alloc HR.out.2.size (.cells #[.string (Mt.str o), .string (Mt.str nw), .string (Mt.str gt)] 98))
      obtain ⟨xb, hxb⟩ : ∃ xb, wr.heap.size = xb := ⟨_, rfl⟩
      have HXB : Hid (w.heap.size ≤ xb) := Lib.hid (by rw [← hxb]; exact HR.out.2.size)
      rw [hxb] at HX2 ⊢
      generalize (wr.alloc (.cells #[.string (Mt.str o), .string (Mt.str nw), .string (Mt.str gt)] 98)) = w2 at *
      clear hld hxb
      have x2 : w2.cell? ⟨xb, 2, none⟩ = some (.string (Mt.str gt)) := by rw [cell_of_row _ _ _ _ _ _ HX2.out]; rfl
      have HRD := Lib.hid (fun u => rread_any gt u HX.out)
      have HRH := Lib.hid (fun u => rrhead_any gt u HX.out)
      have HC : Hid (∀ u : World, Below w2.heap.size w2 u → u.cell? ⟨xb, 0, none⟩ = some (.string (Mt.str o)) ∧ u.cell? ⟨xb, 1, none⟩ = some (.string (Mt.str nw)) ∧ u.cell? ⟨xb, 2, none⟩ = some (.string (Mt.str gt))) := Lib.hid (fun u hu => by
        have hrow := (hu.block xb (lt_of_block HX2.out)).trans HX2.out
        exact ⟨by rw [cell_of_row _ _ _ _ _ _ hrow]; rfl, by rw [cell_of_row _ _ _ _ _ _ hrow]; rfl, by rw [cell_of_row _ _ _ _ _ _ hrow]; rfl⟩)
      obtain ⟨c0, c1, c2, c3, c4, hcv⟩ : ∃ c0 c1 c2 c3 c4, rclV (Mt.rdCell gt) = #[Value.int .i64 c0, .int .i64 c1, .int .i64 c2, .int .i64 c3, .string c4] := ⟨_, _, _, _, _, rfl⟩
      rw [hcv] at HRD
      clear hcv
      go_wp2_with fail
      refine (HRD.out _).mono ?_
      rintro e w3 ⟨rfl, hb⟩
      have HB3 := Lib.hid (hb.alloc hb.size (.cells #[.int .i64 c0, .int .i64 c1, .int .i64 c2, .int .i64 c3, .string c4] 86))
      clear hb x2
      obtain ⟨bc, hbc⟩ : ∃ bc, decide (Mt.isCl gt) = bc := ⟨_, rfl⟩
      rw [hbc]
      go_upto_region 5 with fail
      obtain ⟨-, -, y2⟩ := HC.out _ HB3.out
      generalize (w3.alloc (.cells #[.int .i64 c0, .int .i64 c1, .int .i64 c2, .int .i64 c3, .string c4] 86)) = w4 at *
      clear HRD HX2
      obtain ⟨bh, hbh⟩ : ∃ bh, decide ((Mt.rdHead gt).1 ≠ 0) = bh := ⟨_, rfl⟩
      rw [hbh] at HRH
      have HBC := Lib.hid (And.intro hbc hbh)
      clear hbc hbh
      go_wp2_with fail
      refine (HRH.out _).mono ?_
      rintro e w5 ⟨rfl, hb⟩
      have HB5 := Lib.hid (HB3.out.trans (hb.mono HB3.out.size))
      obtain ⟨z0, z1, z2⟩ := HC.out _ HB5.out
      have HB6 := Lib.hid (HB2.out.trans (HB5.out.mono HB2.out.size))
      clear hb HB3 y2 HRH HC HB2
      have HPL : Hid ((gt = o ∨ gt = nw ∨ (bc = false ∧ bh = false)) → ∀ (j : Nat) (hj : j < d.tears.length), j < k + 1 → Mt.Plain d.tears[j]) := Lib.hid (fun hp j hj hjk => by
        by_cases hje : j = k
        · subst hje
          rw [HXX.out]
          rcases hp with hp | hp | ⟨hp, hq⟩
          · exact .inl hp
          · exact .inr (.inl hp)
          · refine .inr (.inr ⟨?_, fun hh => ?_⟩)
            · have := HBC.out.1; rw [hp] at this; exact of_decide_eq_false this
            · have h2 := HBC.out.2; rw [hq] at h2; exact (of_decide_eq_false h2) ((rdHead_isHd gt).2 hh)
        · exact HR.out.1 j hj (by omega))
      have HNP : Hid (gt ≠ o → gt ≠ nw → (bc = true ∨ bh = true) → ¬ d.Clear) := Lib.hid (fun h1 h2 h3 hc => by
        have hkt : k < d.tears.length := by rw [HN.out]; exact hkn
        have h4 := hc _ (List.getElem_mem hkt)
        rw [HXX.out] at h4
        rcases h4 with h4 | h4 | ⟨h4, h5⟩
        · exact h1 h4
        · exact h2 h4
        · rcases h3 with h3 | h3
          · have := HBC.out.1; rw [h3] at this; exact h4 (of_decide_eq_true this)
          · have := HBC.out.2; rw [h3] at this; exact h5 ((rdHead_isHd gt).1 (of_decide_eq_true this)))
      have hstr : ∀ p q : List UInt8, p ≠ q → ((Mt.str p).toList == (Mt.str q).toList) = false := fun p q hne => by
        rw [ByteArray.toList_eq, ByteArray.toList_eq, Mt.str_data, Mt.str_data]
        simpa using hne
      have hstr2 : ∀ p : List UInt8, ((Mt.str p).toList == (Mt.str p).toList) = true := fun p => by simp
      by_cases p1 : gt = o
      · have q1 : ((Mt.str gt).toList == (Mt.str o).toList) = true := by rw [p1]; exact hstr2 o
        have HP := Lib.hid (HPL.out (.inl p1))
        clear HPL HNP hstr hstr2 p1
        go_wp2_with fail
        go_roundw
        case rel => exact ⟨k + 1, by omega, by go_num, Lib.hid ⟨HP.out, HB6.out⟩⟩
        case measure => simp [intOf]; omega
      · have q1 : ((Mt.str gt).toList == (Mt.str o).toList) = false := hstr _ _ p1
        by_cases p2 : gt = nw
        · have q2 : ((Mt.str gt).toList == (Mt.str nw).toList) = true := by rw [p2]; exact hstr2 nw
          have HP := Lib.hid (HPL.out (.inr (.inl p2)))
          clear HPL HNP hstr hstr2 p1 p2
          go_wp2_with fail
          go_roundw
          case rel => exact ⟨k + 1, by omega, by go_num, Lib.hid ⟨HP.out, HB6.out⟩⟩
          case measure => simp [intOf]; omega
        · have q2 : ((Mt.str gt).toList == (Mt.str nw).toList) = false := hstr _ _ p2
          have HNQ := Lib.hid (HNP.out p1 p2)
          clear HNP hstr hstr2 p1 p2
          cases bc
          · cases bh
            · have HP := Lib.hid (HPL.out (.inr (.inr ⟨rfl, rfl⟩)))
              clear HPL
              go_wp2_with fail
              go_roundw
              case rel => exact ⟨k + 1, by omega, by go_num, Lib.hid ⟨HP.out, HB6.out⟩⟩
              case measure => simp [intOf]; omega
            · clear HPL
              go_wp2_with fail
              go_ret
              exact ⟨true, rfl, ⟨(fun h => by cases h), fun h => absurd h (HNQ.out (by simp))⟩, HB6.out⟩
          · clear HPL
            go_wp2_with fail
            go_ret
            exact ⟨true, rfl, ⟨(fun h => by cases h), fun h => absurd h (HNQ.out (by simp))⟩, HB6.out⟩
    · obtain rfl : k = N := by omega
      have d1 : decide ((k : Int) < (k : Int)) = false := decide_eq_false (by omega)
      have d2 : decide (k < k) = false := decide_eq_false (by omega)
      go_wp2_with fail
      go_ret
      refine ⟨false, rfl, ⟨fun _ x hx => ?_, fun _ => rfl⟩, HR.out.2⟩
      obtain ⟨j, hj, rfl⟩ := List.getElem_of_mem hx
      exact HR.out.1 j hj (by rw [← HN.out]; exact hj)
end
end Go.Proofs.YtnioagojiipjlaaGreat

/-
  Both journals' and both disks' calls, one behind the other, with what lies below them.
-/
namespace Go.Proofs.YtnioagojiipjlaaGreat
open Go.RowKit Go.Maps
section
variable {base : Nat} {w u : World} {B bl bm J Q : Nat} {g : Rg} {t : Nat} {d : Mt.Dk} {j : Mt.Jn} {sl : Int} {o1 : Option (Nat × Mt.Jn)} {o2 : Option (Nat × Mt.Jn × Int)}
/-- Texts that lay there before. -/
theorem TsP.low {w0 : World} {v : Value} {ls : List (List UInt8)} {d1 d2 : Mt.Dk} (h : IsTs w0 v ls) (hb : Below w0.heap.size w0 w) (hs : Syn w0.heap.size w B bl bm g t d1 d2 o1 (some (Q, j, sl))) : TsP w g Q v ls := by
  have h1 : IsTs w v ls := h.below hb
  obtain ⟨a, c, rfl, _, hr⟩ := h
  obtain ⟨u1, u2, u3, u4, u5, u6, u7⟩ := hs.apart.up
  obtain ⟨q1, _⟩ := hs.j2 Q j sl rfl
  refine ⟨a, c, rfl, ?_⟩
  rcases hr with hr | ⟨b, off, rfl, hlt, hc⟩
  · exact .inl hr
  · refine .inr ⟨b, off, rfl, Nat.lt_of_lt_of_le hlt hb.size, .inl (by omega), by omega, by omega, by omega, by omega, fun k hk => ?_⟩
    rw [hb.cell (p := ⟨b, off + k, none⟩) hlt]
    exact hc k hk
theorem Syn.mono {d1 d2 : Mt.Dk} (h : Syn base w B bl bm g t d1 d2 o1 o2) {t' : Nat} (ht : t ≤ t') : Syn base w B bl bm g t' d1 d2 o1 o2 := by
  refine ⟨h.apart, h.one, ?_, h.j1, h.j2, h.ne⟩
  have h2 := h.two
  cases o2 with
  | none => exact IsR.mono h2 ht
  | some p =>
    obtain ⟨Q, j, sl⟩ := p
    have hq : QD w Q g t j sl d2 := h2
    exact ⟨hq.jn, hq.dk.mono ht, hq.kept, hq.ne, hq.four, hq.half, hq.head, hq.gen, hq.used, hq.count, hq.slot⟩
/-- The journals are forgotten. -/
theorem Syn.drop {d1 d2 : Mt.Dk} (h : Syn base w B bl bm g t d1 d2 o1 o2) : Syn base w B bl bm g t d1 d2 none none :=
  ⟨h.apart, h.isD, h.isR, (fun _ _ e => nomatch e), (fun _ _ _ e => nomatch e), (fun _ _ _ _ _ e => nomatch e)⟩
theorem crash3 (h : Syn base w B bl bm g t d d o1 o2) (hc : Mt.Calm2 d) (ht : t < 1000000) (k : Nat) (a b : Int) (hk : k < 18446744073709551616) (ha : -9223372036854775808 ≤ a ∧ a ≤ 9223372036854775807) (hb : -9223372036854775808 ≤ b ∧ b ≤ 9223372036854775807) :
    Calls Tryz.prog 20 #[.pointer (some ⟨B, 0, none⟩), .agg #[.int .u64 (k : Int), .int .i64 a, .int .i64 b]] w fun e w' => e = .returned (.tuple #[]) ∧ Hid (Below base w w' ∧ Calls Tryz.prog 21 #[.pointer (some ⟨g.R, 0, none⟩), .agg #[.int .u64 (k : Int), .int .i64 a, .int .i64 b]] w' fun e w'' => e = .returned (.tuple #[]) ∧ Hid (Syn base w'' B bl bm g (t + 1) (d.crash k a b) (d.crash k a b) o1 o2 ∧ Below base w w'')) := by
  refine (crash1 h k a b hk ha hb).mono ?_
  rintro e w' ⟨rfl, s1, b1, _⟩
  refine ⟨rfl, Lib.hid ⟨b1, ?_⟩⟩
  refine (crash2 s1 hc.calm ht k a b hk ha hb).mono ?_
  rintro e w'' ⟨rfl, s2, b2⟩
  exact ⟨rfl, Lib.hid ⟨s2, b1.trans b2⟩⟩
theorem cut3 (h : Syn base w B bl bm g t d d o1 o2) (n : Int) (hn : n ≤ 9223372036854775807) (k : Nat) (a b : Int) (hk : k < 18446744073709551616) (ha : -9223372036854775808 ≤ a ∧ a ≤ 9223372036854775807) (hb : -9223372036854775808 ≤ b ∧ b ≤ 9223372036854775807) :
    Calls Tryz.prog 22 #[.pointer (some ⟨B, 0, none⟩), .int .i64 n, .agg #[.int .u64 (k : Int), .int .i64 a, .int .i64 b]] w fun e w' => e = .returned (.tuple #[]) ∧ Hid (Below base w w' ∧ OnlyS [B, bl, bm] w w' ∧ Calls Tryz.prog 23 #[.pointer (some ⟨g.R, 0, none⟩), .int .i64 n, .agg #[.int .u64 (k : Int), .int .i64 a, .int .i64 b]] w' fun e w'' => e = .returned (.tuple #[]) ∧ Hid (Syn base w'' B bl bm g t (d.cutAt n.toNat k a b) (d.cutAt n.toNat k a b) o1 o2 ∧ Below base w w'' ∧ Fr g w' w'')) := by
  refine (cut1 h n k a b hn hk ha hb).mono ?_
  rintro e w' ⟨rfl, s1, b1, o1⟩
  refine ⟨rfl, Lib.hid ⟨b1, o1, ?_⟩⟩
  refine (ecut_any s1.two.isR n k a b hn hk ha hb).mono ?_
  rintro e w'' ⟨rfl, p, q⟩
  obtain ⟨s2, b2⟩ := s1.disk2 p q rfl
  exact ⟨rfl, Lib.hid ⟨s2, b1.trans b2, q⟩⟩
/-- Reset of both, of texts that lay there before. -/
theorem reset3 {w0 : World} {v : Value} {bs : List (List UInt8)} (h : Syn w0.heap.size w B bl bm g t d d (some (J, j)) (some (Q, j, sl))) (hv : IsTs w0 v bs) (hb0 : Below w0.heap.size w0 w) (hn : bs.length ≤ 9) (hl5 : ∀ b ∈ bs, b.length ≤ 500) (ht : t + 20010 < 1000000) :
    Calls Tryz.prog 18 #[.pointer (some ⟨J, 0, none⟩), v] w fun e w' => e = .returned (.int .i64 (Mt.resetJ d j bs).2.2) ∧ Hid (Calls Tryz.prog 19 #[.pointer (some ⟨Q, 0, none⟩), v] w' fun e w'' => e = .returned (.int .i64 (Mt.resetJ d j bs).2.2) ∧ Hid (∃ sl', Syn w0.heap.size w'' B bl bm g (t + 20010) (Mt.resetJ d j bs).1 (Mt.resetJ d j bs).1 (some (J, (Mt.resetJ d j bs).2.1)) (some (Q, (Mt.resetJ d j bs).2.1, sl')) ∧ Below w0.heap.size w w'')) := by
  refine (reset1 h (hv.below hb0) (by omega)).mono ?_
  rintro e w' ⟨rfl, h2⟩
  obtain ⟨s1, b1, _⟩ := h2.out
  refine ⟨rfl, Lib.hid ?_⟩
  have hne := Mt.needs_few 4 bs (fun b hb => by have := hl5 b hb; omega)
  refine (reset2 s1 (TsP.low hv (hb0.trans b1) s1) (by omega) (fun b hb => by have := hl5 b hb; omega) (by omega) ht).mono ?_
  rintro e w'' ⟨rfl, h3⟩
  obtain ⟨sl', s2, b2⟩ := h3.out
  exact ⟨rfl, Lib.hid ⟨sl', s2, b1.trans b2⟩⟩
end
end Go.Proofs.YtnioagojiipjlaaGreat
