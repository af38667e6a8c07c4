/-
  What tlv.measure comes to.
-/
import Derived.Test.YtmdhioifdnaajaaTvU
set_option linter.unusedVariables false
set_option linter.unusedSimpArgs false
namespace Go.Proofs.Ytmdhioifdnaajaa
open Go.RowKit

theorem Mt.putAll_append (f : Mt.Nd → Except Nat (List UInt8)) : ∀ (a b : List Mt.Nd), Mt.putAll f (a ++ b) = match Mt.putAll f a with
    | .error e => .error e
    | .ok s => match Mt.putAll f b with
      | .error e => .error e
      | .ok t => .ok (s ++ t)
  | [], b => by simp only [List.nil_append, Mt.putAll]; cases Mt.putAll f b <;> simp
  | n :: r, b => by
    simp only [List.cons_append, Mt.putAll]
    cases f n with
    | error e => rfl
    | ok s =>
      simp only
      rw [Mt.putAll_append f r b]
      cases Mt.putAll f r with
      | error e => rfl
      | ok t =>
        simp only
        cases Mt.putAll f b with
        | error e => rfl
        | ok u => simp
theorem Mt.putAll_one (f : Mt.Nd → Except Nat (List UInt8)) (n : Mt.Nd) : Mt.putAll f [n] = f n := by
  simp only [Mt.putAll]
  cases f n with
  | error e => rfl
  | ok s => simp
theorem Mt.take_split {α : Type} (l : List α) (k : Nat) (h : k < l.length) : l = l.take k ++ l[k] :: l.drop (k + 1) := by simp
theorem Mt.putAll_stop {f : Mt.Nd → Except Nat (List UInt8)} {ks : List Mt.Nd} {k e : Nat} {s : List UInt8} (hk : k < ks.length) (h1 : Mt.putAll f (ks.take k) = .ok s) (h2 : f ks[k] = .error e) : Mt.putAll f ks = .error e := by
  have h := Mt.putAll_append f (ks.take k) (ks[k] :: ks.drop (k + 1))
  rw [← Mt.take_split ks k hk, h1] at h
  rw [h]
  simp [Mt.putAll, h2]
theorem Mt.putAll_more {f : Mt.Nd → Except Nat (List UInt8)} {ks : List Mt.Nd} {k : Nat} {s t : List UInt8} (hk : k < ks.length) (h1 : Mt.putAll f (ks.take k) = .ok s) (h2 : f ks[k] = .ok t) : Mt.putAll f (ks.take (k + 1)) = .ok (s ++ t) := by
  rw [List.take_succ_eq_append_getElem hk, Mt.putAll_append, h1, Mt.putAll_one, h2]
theorem Mt.putL_err : ∀ (d : Nat) (n : Mt.Nd) (e : Nat), Mt.putL d n = .error e → e ≠ 0
  | 0, _, e, h => by simp [Mt.putL] at h; omega
  | d + 1, .mk t D ks, e, h => by
    have hall : ∀ (l : List Mt.Nd) (e : Nat), Mt.putAll (Mt.putL d) l = .error e → e ≠ 0 := by
      intro l
      induction l with
      | nil => intro e h; simp [Mt.putAll] at h
      | cons n r ih =>
        intro e h
        simp only [Mt.putAll] at h
        split at h
        · rename_i e2 h2; cases h; exact Mt.putL_err d _ _ h2
        · split at h
          · rename_i e2 h2; cases h; exact ih _ h2
          · cases h
    simp only [Mt.putL] at h
    split at h
    · cases h; decide
    · split at h
      · cases h; decide
      · split at h
        · rename_i e2 h2; cases h; exact hall _ _ h2
        · split at h
          · cases h; decide
          · cases h
theorem Mt.ask_put (d : Nat) (n : Mt.Nd) (h : Mt.askN d n.tag n.data n.kids.length ≠ 0) : Mt.putL d n = .error (Mt.askN d n.tag n.data n.kids.length) := by
  obtain ⟨t, D, ks⟩ := n
  simp only [Mt.Nd.tag, Mt.Nd.data, Mt.Nd.kids] at *
  unfold Mt.askN at h ⊢
  cases d with
  | zero => simp [Mt.putL]
  | succ d =>
    rw [if_neg (by simp)] at h ⊢
    simp only [Mt.putL]
    by_cases hb : Mt.badTag t
    · rw [if_pos hb, if_pos hb]
    · rw [if_neg hb] at h ⊢
      rw [if_neg hb]
      by_cases hc : Mt.cons t ∧ D ≠ [] ∨ ¬ Mt.cons t ∧ ks.length ≠ 0
      · have hc' : Mt.cons t ∧ D ≠ [] ∨ ¬ Mt.cons t ∧ ks ≠ [] := by
          rcases hc with hc | ⟨h1, h2⟩
          · exact .inl hc
          · exact .inr ⟨h1, fun e => h2 (by rw [e]; rfl)⟩
        rw [if_pos hc, if_pos hc']
      · rw [if_neg hc] at h; exact absurd rfl h
theorem Mt.ask_go (d : Nat) (n : Mt.Nd) (h : Mt.askN (d + 1) n.tag n.data n.kids.length = 0) : 0 ≤ n.tag ∧ n.tag ≤ 255 ∧ Mt.putL (d + 1) n = match Mt.putAll (Mt.putL d) n.kids with
    | .error e => .error e
    | .ok bs => if 1048576 < n.data.length + bs.length then .error 5 else .ok (Mt.frontL n.tag.toNat (n.data.length + bs.length) ++ (n.data ++ bs)) := by
  obtain ⟨t, D, ks⟩ := n
  simp only [Mt.Nd.tag, Mt.Nd.data, Mt.Nd.kids] at *
  unfold Mt.askN at h
  rw [if_neg (by simp)] at h
  by_cases hb : Mt.badTag t
  · rw [if_pos hb] at h; cases h
  · rw [if_neg hb] at h
    by_cases hc : Mt.cons t ∧ D ≠ [] ∨ ¬ Mt.cons t ∧ ks.length ≠ 0
    · rw [if_pos hc] at h; cases h
    · have hc' : ¬ (Mt.cons t ∧ D ≠ [] ∨ ¬ Mt.cons t ∧ ks ≠ []) := by
        rintro (hc2 | ⟨h1, h2⟩)
        · exact hc (.inl hc2)
        · exact hc (.inr ⟨h1, fun e => h2 (List.eq_nil_of_length_eq_zero e)⟩)
      have hb2 := hb
      unfold Mt.badTag at hb2
      refine ⟨by omega, by omega, ?_⟩
      simp only [Mt.putL]
      rw [if_neg hb, if_neg hc']
      cases Mt.putAll (Mt.putL d) ks <;> rfl

/-- What measure answers. -/
def measV : Except Nat (List UInt8) → Value
  | .error e => .tuple #[.int .i64 0, .int .i64 e]
  | .ok s => .tuple #[.int .i64 s.length, .int .i64 0]

set_option maxRecDepth 100000 in
theorem measure_any : ∀ (d dep : Nat), dep + d = 65 → ∀ (n : Mt.Nd) (v : Value) (w : World) (ok : Nat → Prop) (h : Nat), IsNd w ok h v n →
    Calls Try.prog 26 #[v, .int .i64 dep] w fun e w' => e = .returned (measV (Mt.putL d n)) ∧ Below w.heap.size w w' := by
  intro d
  induction d with
  | zero =>
    intro dep hd n v w ok h hn
    obtain ⟨a, c, rfl⟩ := hn.form
    have e1 : Mt.putL 0 n = .error 6 := by simp [Mt.putL]
    have e2 : Mt.askN 0 n.tag n.data n.kids.length = 6 := by simp [Mt.askN]
    have hb := (Below.refl w.heap.size w).alloc (Nat.le_refl _) (.cells #[.int .i64 n.tag, .string (Mt.str n.data), .slice a n.kids.length c] 62)
    have HB := Lib.hid hb
    have HA := Lib.hid (ask_any 0 dep hd n.tag n.data a n.kids.length c (w.alloc (.cells #[.int .i64 n.tag, .string (Mt.str n.data), .slice a n.kids.length c] 62)))
    rw [e2] at HA
    rw [e1]
    generalize n.tag = t at *
    generalize n.data = D at *
    generalize n.kids.length = m at *
    clear hb hn e1 e2 hd
    go_enter Try.func26, Try.ntmps26
    go_wp2_with fail
    refine (HA.out).mono ?_
    rintro e w1 ⟨rfl, hb⟩
    have HB1 := Lib.hid (HB.out.trans (hb.mono HB.out.size))
    clear hb
    go_wp2_with fail
    refine bodyPost_ret (v := measV (.error 6)) (by simp [results, Try.results26, go_sem, measV]) rfl ⟨rfl, HB1.out⟩
  | succ d ih =>
    intro dep hd n v w ok h hn
    obtain ⟨a, c, rfl⟩ := hn.form
    have hb := (Below.refl w.heap.size w).alloc (Nat.le_refl _) (.cells #[.int .i64 n.tag, .string (Mt.str n.data), .slice a n.kids.length c] 62)
    have hrow := heap_alloc_new w (.cells #[.int .i64 n.tag, .string (Mt.str n.data), .slice a n.kids.length c] 62)
    have HB := Lib.hid hb
    have HROW := Lib.hid hrow
    have HA := Lib.hid (ask_any (d + 1) dep hd n.tag n.data a n.kids.length c (w.alloc (.cells #[.int .i64 n.tag, .string (Mt.str n.data), .slice a n.kids.length c] 62)))
    have hsz : (w.alloc (.cells #[.int .i64 n.tag, .string (Mt.str n.data), .slice a n.kids.length c] 62)).heap.size = w.heap.size + 1 := by simp
    have HSZ := Lib.hid hsz
    clear hb hrow hsz
    by_cases hq : Mt.askN (d + 1) n.tag n.data n.kids.length = 0
    · rw [hq] at HA
      obtain ⟨ht0, ht1, hput⟩ := Mt.ask_go d n hq
      obtain ⟨h', hh, hD, hk, hkids⟩ : ∃ h', h = h' + 1 ∧ n.data.length ≤ 140737488351232 ∧ n.kids.length ≤ 2932031007402 ∧ IsKids (IsNd w ok h') w ok a n.kids := by
        cases h with
        | zero => exact hn.elim
        | succ h' =>
          obtain ⟨a2, c2, e, h1, h2, h3⟩ := hn
          simp only [Value.agg.injEq] at e
          have e' := congrArg Array.toList e
          simp at e'
          obtain ⟨rfl, rfl⟩ := e'
          exact ⟨h', rfl, h1, h2, h3⟩
      obtain ⟨t, ht⟩ := Int.eq_ofNat_of_zero_le ht0
      obtain ⟨ks, hks⟩ : ∃ ks, n.kids = ks := ⟨_, rfl⟩
      obtain ⟨D, hDD⟩ : ∃ D, n.data = D := ⟨_, rfl⟩
      rw [hks, hDD, ht] at HA HB HROW HSZ hput
      rw [hks] at hk hkids
      rw [hDD] at hD
      rw [hput, hks, hDD, ht]
      have ht256 : t < 256 := by omega
      have hds : (Mt.str D).size = D.length := Mt.str_size D
      have HK := Lib.hid hkids
      have HIH := Lib.hid (fun n v w ok h hn => ih (dep + 1) (by omega) n v w ok h hn)
      have hdw : IntKind.i64.wrap ((dep : Int) + 1) = (dep : Int) + 1 := IntWalk.i64_in _ (by omega)
      have hk2 : (ks.length : Int) ≤ 9223372036854775807 := by omega
      rw [Int.toNat_natCast]
      obtain ⟨R, hR⟩ : ∃ R, (match Mt.putAll (Mt.putL d) ks with
        | .error e => .error e
        | .ok bs => if 1048576 < D.length + bs.length then .error 5 else .ok (Mt.frontL t (D.length + bs.length) ++ (D ++ bs)) : Except Nat (List UInt8)) = R := ⟨_, rfl⟩
      rw [hR]
      have HRR := Lib.hid hR
      clear hR
      have hdep : (dep : Int) ≤ 100 := by omega
      clear hkids hput ht hks hDD hn hq ih hd
      go_enter Try.func26, Try.ntmps26
      go_wp2_with fail
      refine (HA.out).mono ?_
      rintro e w1 ⟨rfl, hb⟩
      have HB1 := Lib.hid (HB.out.trans (hb.mono HB.out.size))
      have hr1 : w1.heap[w.heap.size]? = some (.cells #[.int .i64 t, .string (Mt.str D), .slice a ks.length c] 62 (0, 0)) := (hb.block _ (by rw [HSZ.out]; omega)).trans HROW.out
      have b1 := cell_of_row w1 w.heap.size 1 _ _ _ hr1
      have b2 := cell_of_row w1 w.heap.size 2 _ _ _ hr1
      have HR1 := Lib.hid hr1
      clear hb hr1
      go_wp2_with fail
      go_loopw [7, 24] (fun sz i wr => ∃ (k L : Nat), k ≤ ks.length ∧ L ≤ 140737488351232 + k * 1048581 ∧ i = .int .i64 k ∧ sz = .int .i64 L ∧ Hid (∃ bs, Mt.putAll (Mt.putL d) (ks.take k) = .ok bs ∧ L = D.length + bs.length ∧ Below w.heap.size w wr ∧ wr.heap[w.heap.size]? = some (.cells #[.int .i64 t, .string (Mt.str D), .slice a ks.length c] 62 (0, 0)))) (fun _ i _ => ks.length - (intOf i).toNat)
      case atStart => exact ⟨0, D.length, Nat.zero_le _, by omega, rfl, rfl, [], by simp [Mt.putAll], by simp, HB1.out, HR1.out⟩
      case round =>
        obtain ⟨k, L, hk', hL, rfl, rfl, HR⟩ := hrel
        by_cases hlt : k < ks.length
        · obtain ⟨bs, hbs, hLb, hbw, hrow⟩ := HR.out
          obtain hnil | ⟨ba, oa, rfl, _, hca⟩ := HK.out
          · rw [hnil] at hlt; simp at hlt
          obtain ⟨x0, x1, x2, p0, p1, p2, hx⟩ := hca k hlt
          obtain ⟨na, nc, e3⟩ := hx.form
          simp only [Value.agg.injEq] at e3
          have e4 := congrArg Array.toList e3
          simp only [List.cons.injEq, and_true] at e4
          obtain ⟨rfl, rfl, rfl⟩ := e4
          have hla := World.block_lt_of_cell? w _ p0
          have ea : ∀ o, wr.cell? ⟨ba, o, none⟩ = w.cell? ⟨ba, o, none⟩ := fun o => hbw.cell (p := ⟨ba, o, none⟩) hla
          rw [← ea, Nat.mul_comm 3 k] at p0 p1 p2
          have hbx := (Below.refl wr.heap.size wr).alloc (Nat.le_refl _) (.cells #[.int .i64 ks[k].tag, .string (Mt.str ks[k].data), .slice na ks[k].kids.length nc] 62)
          have HC := Lib.hid (HIH.out ks[k] _ _ ok h' ((hx.below hbw).below hbx))
          have HBX := Lib.hid (hbw.trans (hbx.mono hbw.size))
          have HRX := Lib.hid ((hbx.block _ (lt_of_block hrow)).trans hrow)
          have hLn : (L : Int) ≤ 9000000000000000000 := by omega
          have hPL := fun s (hs : Mt.putL d ks[k] = .ok s) => Mt.putL_length hs
          have HBS := Lib.hid hbs
          have HLB := Lib.hid hLb
          clear ea hx hca hbx hbw hrow hbs hLb HR e3
          cases hp : Mt.putL d ks[k] with
          | error e =>
            have hene := Mt.putL_err _ _ _ hp
            have he1 : ((e : Int) != 0) = true := by simp; omega
            have he2 : ((e : Int) == 0) = false := by simp; omega
            have hst := Mt.putAll_stop hlt HBS.out hp
            rw [hp] at HC
            have hRe : R = .error e := by rw [← HRR.out, hst]
            have HRE := Lib.hid hRe
            clear hp hene hst hPL hRe
            go_wp2_with fail
            refine (HC.out).mono ?_
            rintro e w2 ⟨rfl, hb⟩
            have HB2 := Lib.hid (HBX.out.trans (hb.mono HBX.out.size))
            clear hb
            simp only [measV]
            go_wp2_with fail
            refine bodyPost_ret (v := measV (.error e)) (by simp [results, Try.results26, go_sem, measV]) rfl ⟨by rw [HRE.out], HB2.out⟩
          | ok s =>
            have hsl := hPL s hp
            have hmore := Mt.putAll_more hlt HBS.out hp
            rw [hp] at HC
            have HM := Lib.hid hmore
            clear hp hmore hPL
            go_wp2_with fail
            refine (HC.out).mono ?_
            rintro e w2 ⟨rfl, hb⟩
            have HX : Hid (∃ bs', Mt.putAll (Mt.putL d) (ks.take (k + 1)) = .ok bs' ∧ L + s.length = D.length + bs'.length ∧ Below w.heap.size w w2 ∧ w2.heap[w.heap.size]? = some (.cells #[.int .i64 t, .string (Mt.str D), .slice (some ⟨ba, oa, none⟩) ks.length c] 62 (0, 0))) := by
              refine ⟨bs ++ s, HM.out, by have := HLB.out; simp; omega, HBX.out.trans (hb.mono HBX.out.size), (hb.block _ (lt_of_block HRX.out)).trans HRX.out⟩
            clear hb
            simp only [measV]
            go_wp2_with fail
            go_roundw
            case rel => exact ⟨k + 1, L + s.length, by omega, by omega, by go_num, by go_num, HX⟩
            case measure => simp [intOf]; omega
        · obtain rfl : k = ks.length := by omega
          rw [List.take_length] at HR
          obtain ⟨bs, hbs, hLb, hbw, hrow⟩ := HR.out
          have HRB : Hid (R = if 1048576 < D.length + bs.length then .error 5 else .ok (Mt.frontL t (D.length + bs.length) ++ (D ++ bs))) := by show R = _; rw [← HRR.out, hbs]
          have HBW := Lib.hid hbw
          have b0 := cell_of_row wr w.heap.size 0 _ _ _ hrow
          have HLB := Lib.hid hLb
          clear hbs hLb hbw hrow HR
          by_cases hbig : 1048576 < L
          · have hbd : decide (1048576 < L) = true := decide_eq_true hbig
            go_wp2_with fail
            refine bodyPost_ret (v := measV (.error 5)) (by simp [results, Try.results26, go_sem, measV]) rfl ⟨?_, HBW.out⟩
            rw [HRB.out, if_pos (by have := HLB.out; omega)]
          · have hbd : decide (1048576 < L) = false := decide_eq_false hbig
            have HF := Lib.hid (front_any t L ht256 (by omega) wr)
            have hfl := (Mt.frontL_length t L).1
            have hfs : (Mt.str (Mt.frontL t L)).size = (Mt.frontL t L).length := Mt.str_size _
            have HRES : Hid (measV R = .tuple #[.int .i64 (((Mt.frontL t L).length : Int) + L), .int .i64 0]) := by
              have hlb := HLB.out
              show measV R = _
              rw [HRB.out, if_neg (by omega), ← hlb]
              simp only [measV, List.length_append]
              rw [← hlb]
              simp
            go_wp2_with fail
            refine (HF.out).mono ?_
            rintro e w2 ⟨rfl, hb⟩
            have HB2 := Lib.hid (HBW.out.trans (hb.mono HBW.out.size))
            clear hb
            go_wp2_with fail
            refine bodyPost_ret (v := .tuple #[.int .i64 (((Mt.frontL t L).length : Int) + L), .int .i64 0]) (by simp [results, Try.results26, go_sem]) rfl ⟨by rw [HRES.out], HB2.out⟩
    · have hput := Mt.ask_put (d + 1) n hq
      rw [hput]
      generalize Mt.askN (d + 1) n.tag n.data n.kids.length = e at *
      have he1 : ((e : Int) != 0) = true := by simp; omega
      have he2 : ((e : Int) == 0) = false := by simp; omega
      generalize n.tag = t at *
      generalize n.data = D at *
      generalize n.kids.length = m at *
      clear hn hput hq ih hd
      go_enter Try.func26, Try.ntmps26
      go_wp2_with fail
      refine (HA.out).mono ?_
      rintro x w1 ⟨rfl, hb⟩
      have HB1 := Lib.hid (HB.out.trans (hb.mono HB.out.size))
      clear hb
      go_wp2_with fail
      refine bodyPost_ret (v := measV (.error e)) (by simp [results, Try.results26, go_sem, measV]) rfl ⟨rfl, HB1.out⟩
end Go.Proofs.Ytmdhioifdnaajaa
