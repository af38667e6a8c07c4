/-
  What the document's put and Put come to.
-/
import Derived.Test.YtcijjblcoelabaaTvF
import Derived.Deep.Cut
set_option linter.unusedVariables false
set_option linter.unusedSimpArgs false
namespace Go.Proofs.Ytcijjblcoelabaa
open Go.RowKit

/-- No node has many bytes or many kids. -/
def Mt.Small : Nat → Mt.Nd → Prop
  | 0, _ => False
  | h + 1, n => n.data.length ≤ 1048576 ∧ n.kids.length ≤ 1048576 ∧ ∀ k ∈ n.kids, Mt.Small h k

theorem IsByt.rw' {w : World} {g : Nat} {v : Value} {l : List UInt8} (h : IsByt w g v l) : IsRw 5 1 w g v l.length (Mt.cs l) := by
  refine ⟨by rw [Mt.cs_length, Nat.mul_one], ?_⟩
  rcases h with ⟨rfl, rfl⟩ | ⟨off, cap, cur, rfl, h2, h3, h4, h5⟩
  · exact .inl ⟨rfl, rfl⟩
  · refine .inr ⟨off, cap, cur, rfl, h2, h3, by rw [Nat.mul_one]; exact h4, fun j hj => ?_⟩
    rw [Mt.cs_length] at hj
    rw [h5 j hj]
    simp [Mt.cs]
theorem IsRw.byt {w : World} {g n : Nat} {v : Value} {l : List UInt8} (h : IsRw 5 1 w g v n (Mt.cs l)) : IsByt w g v l := by
  obtain ⟨hl, h⟩ := h
  rw [Mt.cs_length, Nat.mul_one] at hl
  subst hl
  rcases h with ⟨h0, rfl⟩ | ⟨off, cap, cur, rfl, h2, h3, h4, h5⟩
  · exact .inl ⟨List.eq_nil_of_length_eq_zero h0, rfl⟩
  · refine .inr ⟨off, cap, cur, rfl, h2, h3, by rw [Nat.mul_one] at h4; exact h4, fun j hj => ?_⟩
    rw [h5 j (by rw [Mt.cs_length]; exact hj)]
    simp [Mt.cs]
/-- One byte more. -/
theorem byt_append1 {w : World} {g : Nat} {v : Value} {l : List UInt8} (h : IsByt w g v l) (b : UInt8) (z : Int) (hz : z = (b.toNat : Int)) (hsz : l.length ≤ 70368744177664) :
    ∃ v' w' g', (∀ ty, (Builtin.append_ #[122, 122] ty #[v, .slice (some ⟨w.heap.size, 0, none⟩) 1 1]).run Try.prog (w.alloc (.cells #[.int .u8 z] 5)) = .ok v' w') ∧ IsByt w' g' v' (l ++ [b]) ∧ (g' = g ∨ w.heap.size ≤ g') ∧ OnlyS [g] w w' := by
  obtain ⟨i0, hi, hz0, hz1, hz2⟩ := info_parts Try.infoU8
  have hbel := (Below.refl w.heap.size w).alloc (Nat.le_refl _) (.cells #[.int .u8 z] 5)
  have src : Src Try.prog i0.size 122 (.slice (some ⟨w.heap.size, 0, none⟩) 1 1) 1 [.int .u8 z] (w.alloc (.cells #[.int .u8 z] 5)) :=
    Src.ofSlice _ Try.underlying122 ⟨w.heap.size, 0, none⟩ 1 1 _ (by rw [hz1]; rfl) (fun j u hu => by
      rw [add_off, cell_of_row _ w.heap.size _ _ _ _ (heap_alloc_new w _), Nat.zero_add]
      simpa using hu) (by simp [Value.oneCell'])
  obtain ⟨v', w', g', hrun, hrw, hg, ho⟩ := rw_append (T := 122) (tx := 122) Try.underlying122 hi hz0 hz1 hz2 rfl (h.rw'.below hbel) (Mt.cs_one _) _ 1 _ src (by omega) (by omega)
  have e : Mt.cs l ++ [Value.int .u8 z] = Mt.cs (l ++ [b]) := by rw [hz]; simp [Mt.cs]
  rw [e] at hrw
  refine ⟨v', w', g', hrun, hrw.byt, ?_, ⟨ho.os.trans hbel.os, ho.tape.trans hbel.tape, ho.output.trans hbel.output, Nat.le_trans hbel.size ho.size, fun k hk hS => (ho.block k (Nat.lt_of_lt_of_le hk hbel.size) hS).trans (hbel.block k hk)⟩⟩
  rcases hg with h | h
  · exact .inl h
  · exact .inr (by rw [h]; exact hbel.size)
theorem byt_conv {w : World} {g : Nat} {v : Value} {l : List UInt8} (h : IsByt w g v l) : (convert 122 9 v).run Try.prog w = .ok (.string (Mt.str l)) w := by
  rcases h with ⟨rfl, rfl⟩ | ⟨off, cap, cur, rfl, h2, h3, h4, h5⟩
  · exact run_convert_bytes_nil (P := Try.prog) (w := w) 122 5 Try.underlying122 Try.underlying5 0 0 9 Try.underlying9
  · have := byt_text (cap := cap) h2 h5 (Nat.le_refl _)
    rwa [List.take_length] at this
/-- A slice of one byte that was just made. -/
theorem byt_one (w : World) (b : UInt8) (z : Int) (hz : z = (b.toNat : Int)) : IsByt (w.alloc (.cells #[.int .u8 z] 5)) w.heap.size (.slice (some ⟨w.heap.size, 0, none⟩) 1 1) [b] := by
  refine .inr ⟨0, 1, _, rfl, heap_alloc_new w _, Nat.le_refl _, by simp, fun j hj => ?_⟩
  have : j = 0 := by simp at hj; omega
  subst this
  simp [hz]

/-- One byte more, whatever the capacity. -/
theorem byt_next {w : World} {g n c : Nat} {a : Option Addr} {l : List UInt8} (h : IsByt w g (.slice a n c) l) (b : UInt8) (z : Int) (hz : z = (b.toNat : Int)) (hsz : l.length ≤ 100) (base : Nat) (hg : base ≤ g) (hbw : base ≤ w.heap.size) :
    ∃ a' n' c' w' g', (∀ ty, (Builtin.append_ #[122, 122] ty #[.slice a n c, .slice (some ⟨w.heap.size, 0, none⟩) 1 1]).run Try.prog (w.alloc (.cells #[.int .u8 z] 5)) = .ok (.slice a' n' c') w') ∧ IsByt w' g' (.slice a' n' c') (l ++ [b]) ∧ base ≤ g' ∧ Below base w w' ∧ base ≤ w'.heap.size := by
  obtain ⟨v', w', g', hrun, hby, hg', ho⟩ := byt_append1 h b z hz (by omega)
  obtain ⟨a', c', rfl⟩ := hby.rw'.form
  have := ho.size
  refine ⟨a', _, c', w', g', hrun, hby, ?_, ho.toBelow (by simpa using hg) hbw, by omega⟩
  rcases hg' with h | h <;> omega

/-- What is behind the loop of put: the head's bytes, and all. -/
theorem frontL_cases (t n : Nat) (ht : t < 256) (hn : n ≤ 1048576) :
    (n < 128 ∧ Mt.frontL t n = [UInt8.ofNat t, UInt8.ofNat n]) ∨ (¬ n < 128 ∧ n < 256 ∧ Mt.frontL t n = [UInt8.ofNat t, 129, UInt8.ofNat n]) ∨
    (¬ n < 128 ∧ ¬ n < 256 ∧ n < 65536 ∧ Mt.frontL t n = [UInt8.ofNat t, 130, UInt8.ofNat (n / 256), UInt8.ofNat (n % 256)]) ∨
    (¬ n < 128 ∧ ¬ n < 256 ∧ ¬ n < 65536 ∧ Mt.frontL t n = [UInt8.ofNat t, 131, UInt8.ofNat (n / 65536), UInt8.ofNat (n / 256 % 256), UInt8.ofNat (n % 256)]) := by
  unfold Mt.frontL Mt.lenSize
  by_cases h1 : n < 128
  · exact .inl ⟨h1, by rw [if_pos h1]⟩
  · right
    rw [if_neg h1]
    by_cases h2 : n < 256
    · refine .inl ⟨h1, h2, ?_⟩
      rw [if_pos h2, Mt.beU1, Nat.mod_eq_of_lt h2]; rfl
    · right
      rw [if_neg h2]
      by_cases h3 : n < 65536
      · refine .inl ⟨h1, h2, h3, ?_⟩
        rw [if_pos h3, Mt.beU2, Nat.mod_eq_of_lt (show n / 256 < 256 by omega)]; rfl
      · refine .inr ⟨h1, h2, h3, ?_⟩
        rw [if_neg h3, Mt.beU3, Nat.mod_eq_of_lt (show n / 65536 < 256 by omega)]; rfl

set_option maxRecDepth 100000 in
set_option maxHeartbeats 8000000 in
theorem rput_any : ∀ (d dep : Nat), dep + d = 65 → ∀ (n : Mt.Nd) (v : Value) (w : World) (ok : Nat → Prop) (h hs : Nat), IsNd w ok h v n → Mt.Small hs n →
    Calls Try.prog 69 #[v, .int .i64 dep] w fun e w' => e = .returned (putV (Mt.putL d n)) ∧ Below w.heap.size w w' := by
  intro d
  induction d with
  | zero =>
    intro dep hd n v w ok h hs hn _
    obtain ⟨a, c, rfl⟩ := hn.form
    have e1 : Mt.putL 0 n = .error 6 := by simp [Mt.putL]
    have hd64 : (64 : Int) < dep := by omega
    have hdd : decide ((64 : Int) < dep) = true := decide_eq_true hd64
    rw [e1]
    clear e1 hd hn
    go_enter Try.func69, Try.ntmps69
    go_wp2_with fail
    refine bodyPost_ret (v := putV (.error 6)) (by simp [results, Try.results69, go_sem, putV]; rfl) rfl ⟨rfl, (Below.refl _ _).alloc (Nat.le_refl _) _⟩
  | succ d ih =>
    intro dep hd n v w ok h hs hn hsm
    obtain ⟨a, c, rfl⟩ := hn.form
    have hd64 : (dep : Int) ≤ 64 := by omega
    have hdd : decide ((64 : Int) < dep) = false := decide_eq_false (by omega)
    have HB := Lib.hid ((Below.refl w.heap.size w).alloc (Nat.le_refl _) (.cells #[.int .i64 n.tag, .string (Mt.str n.data), .slice a n.kids.length c] 76))
    have HROW := Lib.hid (heap_alloc_new w (.cells #[.int .i64 n.tag, .string (Mt.str n.data), .slice a n.kids.length c] 76))
    by_cases hq : Mt.askN (d + 1) n.tag n.data n.kids.length = 0
    · obtain ⟨ht0, ht1, hput⟩ := Mt.ask_go d n hq
      obtain ⟨h', hh, hD, hk, hkids⟩ : ∃ h', h = h' + 1 ∧ n.data.length ≤ 140737488351232 ∧ n.kids.length ≤ 2932031007402 ∧ IsKids (IsNd w ok h') w ok a n.kids := by
        cases h with
        | zero => exact hn.elim
        | succ h' =>
          obtain ⟨a2, c2, e, h1, h2, h3⟩ := hn
          simp only [Value.agg.injEq] at e
          have e' := congrArg Array.toList e
          simp at e'
          obtain ⟨rfl, rfl⟩ := e'
          exact ⟨h', rfl, h1, h2, h3⟩
      obtain ⟨hs', hsm1, hsm2, hsm3⟩ : ∃ hs', n.data.length ≤ 1048576 ∧ n.kids.length ≤ 1048576 ∧ ∀ k ∈ n.kids, Mt.Small hs' k := by
        cases hs with
        | zero => exact hsm.elim
        | succ hs' => exact ⟨hs', hsm⟩
      obtain ⟨R, hR⟩ : ∃ R, Mt.putL (d + 1) n = R := ⟨_, rfl⟩
      rw [hR] at hput ⊢
      obtain ⟨t, ht⟩ := Int.eq_ofNat_of_zero_le ht0
      have hnb : ¬ Mt.badTag n.tag := by
        intro hb; unfold Mt.askN at hq; rw [if_neg (by simp), if_pos hb] at hq; cases hq
      have hncc : ¬ (Mt.cons n.tag ∧ n.data ≠ [] ∨ ¬ Mt.cons n.tag ∧ n.kids.length ≠ 0) := by
        intro hb; unfold Mt.askN at hq; rw [if_neg (by simp), if_neg hnb, if_pos hb] at hq; cases hq
      obtain ⟨ks, hks⟩ : ∃ ks, n.kids = ks := ⟨_, rfl⟩
      obtain ⟨D, hDD⟩ : ∃ D, n.data = D := ⟨_, rfl⟩
      rw [hks, hDD, ht] at HB HROW hput hncc
      rw [ht] at hnb
      rw [hks] at hk hkids hsm2 hsm3
      rw [hDD] at hD hsm1
      rw [hks, hDD, ht]
      unfold Mt.badTag at hnb
      have ht256 : t < 256 := by omega
      have h31 : (((t : Int) % 32) == 31) = false := by simp; omega
      have h31' : (t : Int) % 32 ≠ 31 := by omega
      have hds : (Mt.str D).size = D.length := Mt.str_size D
      have hti : (t : Int) ≤ 255 := by omega
      have HK := Lib.hid hkids
      have HSM := Lib.hid hsm3
      have HIH := Lib.hid (fun n v w ok h hs hn hsm => ih (dep + 1) (by omega) n v w ok h hs hn hsm)
      have hk2 : (ks.length : Int) ≤ 1048576 := by omega
      rw [Int.toNat_natCast] at hput
      have HRR := Lib.hid hput
      have hcond : (((t : Int) / 32 % 2 == 1) = true ∧ D = []) ∨ (((t : Int) / 32 % 2 == 1) = false ∧ ks = []) := by
        unfold Mt.cons at hncc
        by_cases hc : (t : Int) / 32 % 2 = 1
        · left
          refine ⟨by simpa using hc, Classical.byContradiction fun hx => hncc (.inl ⟨hc, hx⟩)⟩
        · right
          refine ⟨by simpa using hc, Classical.byContradiction fun hx => hncc (.inr ⟨hc, fun h0 => hx (List.eq_nil_of_length_eq_zero h0)⟩)⟩
      have hcd : (((t : Int) / 32 % 2 == 1) = true ∧ decide (0 < D.length) = false) ∨ (((t : Int) / 32 % 2 == 1) = false ∧ decide (0 < ks.length) = false) := by
        rcases hcond with ⟨h1, h2⟩ | ⟨h1, h2⟩
        · exact .inl ⟨h1, by rw [h2]; rfl⟩
        · exact .inr ⟨h1, by rw [h2]; rfl⟩
      clear hkids hput ht hks hDD hn hq ih hd hsm hsm3 hR hnb hncc hcond
      obtain ⟨vI, wI, gI, hrunI, hbyI, hgI, hoI⟩ := byt_append (w := w.alloc (.cells #[.int .i64 t, .string (Mt.str D), .slice a ks.length c] 76)) (g := w.heap.size + 1) (v := .slice none 0 0) (l := []) (.inl ⟨rfl, rfl⟩) (Mt.str D) (by rw [hds]; simp; omega)
      rw [List.nil_append, Mt.str_data] at hbyI
      have hBI : Below w.heap.size w wI := HB.out.trans (hoI.toBelow (by simp) HB.out.size)
      have hrI := (hoI.block w.heap.size (by simp) (by simp)).trans HROW.out
      have hgI2 : w.heap.size + 1 ≤ gI := by rcases hgI with h | h <;> rw [h] <;> simp
      have b2 := cell_of_row wI w.heap.size 2 _ _ _ hrI
      obtain ⟨va, vc, rfl⟩ := hbyI.rw'.form
      have HBI := Lib.hid hBI
      have HRI := Lib.hid hrI
      have HYI := Lib.hid (And.intro hbyI hgI2)
      clear hbyI hgI hoI hBI hrI hgI2
      rcases hcd with ⟨hc1, hc2⟩ | ⟨hc1, hc2⟩
      all_goals
        go_enter Try.func69, Try.ntmps69
        go_wp2_with (at_builtin; refine wpList_append_run rfl _ _ 122 9 rfl _ _ rfl rfl hrunI ?_)
        go_loopw [7, 58] (fun lv iv wr => ∃ (k M : Nat) (a7 : Option Addr) (c7 : Nat), k ≤ ks.length ∧ M ≤ 1048576 + k * 1048581 ∧ iv = .int .i64 k ∧ lv = .slice a7 M c7 ∧ Hid (∃ g bs, Mt.putAll (Mt.putL d) (ks.take k) = .ok bs ∧ M = D.length + bs.length ∧ IsByt wr g (.slice a7 M c7) (D ++ bs) ∧ w.heap.size + 1 ≤ g ∧
          Below w.heap.size w wr ∧ wr.heap[w.heap.size]? = some (.cells #[.int .i64 t, .string (Mt.str D), .slice a ks.length c] 76 (0, 0)))) (fun _ iv _ => ks.length - (intOf iv).toNat)
        case atStart => exact ⟨0, D.length, va, vc, Nat.zero_le _, by omega, rfl, rfl, gI, [], by simp [Mt.putAll], by simp, by rw [List.append_nil]; exact HYI.out.1, HYI.out.2, HBI.out, HRI.out⟩
        case round =>
          obtain ⟨k, M, a7, c7, hk', hM, rfl, rfl, HR⟩ := hrel
          by_cases hlt : k < ks.length
          · obtain ⟨g, bs, hbs, hMb, hby, hg, hbw, hrow⟩ := HR.out
            obtain hnil | ⟨ba, oa, rfl, _, hca⟩ := HK.out
            · rw [hnil] at hlt; simp at hlt
            obtain ⟨x0, x1, x2, p0, p1, p2, hx⟩ := hca k hlt
            have hla := World.block_lt_of_cell? w _ p0
            have ea : ∀ o, wr.cell? ⟨ba, o, none⟩ = w.cell? ⟨ba, o, none⟩ := fun o => hbw.cell (p := ⟨ba, o, none⟩) hla
            rw [← ea, Nat.mul_comm 3 k] at p0 p1 p2
            have HC := Lib.hid (HIH.out ks[k] _ wr ok h' hs' (hx.below hbw) (HSM.out _ (List.getElem_mem _)))
            have b2 := cell_of_row wr w.heap.size 2 _ _ _ hrow
            have hPL := fun s (hs : Mt.putL d ks[k] = .ok s) => Mt.putL_length hs
            have HBS := Lib.hid hbs
            have HMB := Lib.hid hMb
            have HBY := Lib.hid (And.intro hby hg)
            have HBW := Lib.hid hbw
            have HRW := Lib.hid hrow
            have hki : (k : Int) < ks.length := by omega
            clear ea hx hca hbw hrow hbs hMb hby hg HR
            cases hp : Mt.putL d ks[k] with
            | error e =>
              have hene := Mt.putL_err _ _ _ hp
              have he1 : ((e : Int) != 0) = true := by simp; omega
              have he2 : ((e : Int) == 0) = false := by simp; omega
              have hRe : R = .error e := by rw [HRR.out, Mt.putAll_stop hlt HBS.out hp]
              rw [hp] at HC
              have HRE := Lib.hid hRe
              clear hp hene hPL hRe
              go_wp2_with fail
              refine (HC.out).mono ?_
              rintro x w2 ⟨rfl, hb⟩
              have HB2 := Lib.hid (HBW.out.trans (hb.mono HBW.out.size))
              clear hb
              simp only [putV]
              go_wp2_with fail
              refine bodyPost_ret (v := putV (.error e)) (by simp [results, Try.results69, go_sem, putV]; rfl) rfl ⟨by rw [HRE.out], HB2.out⟩
            | ok s =>
              have hsl := hPL s hp
              have HM := Lib.hid (Mt.putAll_more hlt HBS.out hp)
              rw [hp] at HC
              clear hp hPL
              go_wp2_with fail
              refine (HC.out).mono ?_
              rintro x w2 ⟨rfl, hb⟩
              have hby2 : IsByt w2 g (.slice a7 M c7) (D ++ bs) := (HBY.out.1.rw'.below hb).byt
              have hrow2 := (hb.block _ (lt_of_block HRW.out)).trans HRW.out
              have hssz : (Mt.str s).size = s.length := Mt.str_size s
              obtain ⟨v3, w3, g3, hrun3, hby3, hg3, ho3⟩ := byt_append hby2 (Mt.str s) (by have := HMB.out; rw [List.length_append, hssz]; omega)
              rw [Mt.str_data] at hby3
              obtain ⟨a3, c3, rfl⟩ := hby3.rw'.form
              have hlen3 : (D ++ bs ++ s).length = M + s.length := by have := HMB.out; simp; omega
              rw [hlen3] at hrun3 hby3
              have hb2 := HBW.out.trans (hb.mono HBW.out.size)
              have hg0 := HBY.out.2
              have HX : Hid (∃ g' bs', Mt.putAll (Mt.putL d) (ks.take (k + 1)) = .ok bs' ∧ M + s.length = D.length + bs'.length ∧ IsByt w3 g' (.slice a3 (M + s.length) c3) (D ++ bs') ∧ w.heap.size + 1 ≤ g' ∧
                  Below w.heap.size w w3 ∧ w3.heap[w.heap.size]? = some (.cells #[.int .i64 t, .string (Mt.str D), .slice (some ⟨ba, oa, none⟩) ks.length c] 76 (0, 0))) := by
                have hlt2 := lt_of_block hrow2
                refine ⟨g3, bs ++ s, HM.out, by have := HMB.out; simp; omega, by rw [← List.append_assoc]; exact hby3, ?_, hb2.trans (ho3.toBelow (by simp; omega) hb2.size), (ho3.block _ hlt2 (by simp; omega)).trans hrow2⟩
                rcases hg3 with h | h <;> omega
              clear hb hby2 hrow2 hby3 hg3 ho3 hb2 hlen3
              simp only [putV]
              go_wp2_with (at_builtin; refine wpList_append_run rfl _ _ 122 9 rfl _ _ rfl rfl hrun3 ?_)
              go_roundw
              case rel => exact ⟨k + 1, M + s.length, a3, c3, by omega, by omega, by go_num, rfl, HX⟩
              case measure => simp [intOf]; omega
          · obtain rfl : k = ks.length := by omega
            rw [List.take_length] at HR
            obtain ⟨g, bs, hbs, hMb, hby, hg, hbw, hrow⟩ := HR.out
            have HRB : Hid (R = if 1048576 < M then .error 5 else .ok (Mt.frontL t M ++ (D ++ bs))) := by show R = _; rw [HRR.out, hbs, hMb]
            have HBW := Lib.hid hbw
            have HBY := Lib.hid (And.intro hby hg)
            have b0 := cell_of_row wr w.heap.size 0 _ _ _ hrow
            have hrl := lt_of_block hrow
            have HMB := Lib.hid hMb
            clear hbs hMb hbw hrow hby hg HR
            by_cases hbig : 1048576 < M
            · have hbd : decide (1048576 < M) = true := decide_eq_true hbig
              go_wp2_with fail
              refine bodyPost_ret (v := putV (.error 5)) (by simp [results, Try.results69, go_sem, putV]; rfl) rfl ⟨by rw [HRB.out, if_pos hbig], HBW.out⟩
            · have hbd : decide (1048576 < M) = false := decide_eq_false hbig
              have hMi : (M : Int) ≤ 1048576 := by omega
              have HRO : Hid (R = .ok (Mt.frontL t M ++ (D ++ bs))) := by show R = _; rw [HRB.out, if_neg hbig]
              have hone := byt_one wr (UInt8.ofNat t) (t : Int) (by simp [UInt8.toNat_ofNat']; omega)
              have hbel1 := (Below.refl wr.heap.size wr).alloc (Nat.le_refl _) (.cells #[.int .u8 (t : Int)] 5)
              have hsz1 : (wr.alloc (.cells #[.int .u8 (t : Int)] 5)).heap.size = wr.heap.size + 1 := by simp
              rcases frontL_cases t M ht256 (by omega) with ⟨q1, hf⟩ | ⟨q1, q2, hf⟩ | ⟨q1, q2, q3, hf⟩ | ⟨q1, q2, q3, hf⟩
              · have hdq : decide (M < 128) = true := decide_eq_true q1
                obtain ⟨a2, n2, c2, u2, g2, r2, h2, l2, b2, s2⟩ := byt_next hone (UInt8.ofNat M) ((M : Int)) (by first | (simp [UInt8.toNat_ofNat']; done) | (simp [UInt8.toNat_ofNat']; omega)) (by simp) wr.heap.size (Nat.le_refl _) (by simp)
                rw [hsz1] at r2
                have hbf : Below wr.heap.size wr u2 := (hbel1).trans b2
                have hin := (HBY.out.1.rw'.below hbf).byt
                have hfe : [UInt8.ofNat t] ++ [UInt8.ofNat M] = Mt.frontL t M := by rw [hf]; rfl
                rw [hfe] at h2
                have hcv1 := byt_conv h2
                have hcv2 := byt_conv hin
                have hadd := fun wx => run_string_add_sum (w := wx) (P := Try.prog) (Mt.str (Mt.frontL t M)) (Mt.str (D ++ bs)) (by rw [Mt.str_size, Mt.str_size]; have := (Mt.frontL_length t M).1; have := HMB.out; rw [List.length_append]; omega)
                rw [Mt.str_append] at hadd
                have HBF : Hid (Below w.heap.size w u2) := HBW.out.trans (hbf.mono HBW.out.size)
                clear hfe hbf hin hone hbel1 hsz1 h2 l2 b2 s2 hf
                go_wp2_with (first | (at_builtin; refine wpList_append_run rfl (.tmp 89) (.tmp 92) 122 122 rfl _ _ rfl rfl r2 ?_))
                refine bodyPost_ret (v := putV (.ok (Mt.frontL t M ++ (D ++ bs)))) (by simp [results, Try.results69, go_sem, putV]) rfl ⟨by rw [HRO.out], HBF.out⟩
              · have hdq : decide (M < 128) = false := decide_eq_false q1
                have hdq2 : decide (M < 256) = true := decide_eq_true q2
                obtain ⟨a2, n2, c2, u2, g2, r2, h2, l2, b2, s2⟩ := byt_next hone (129) (129) (rfl) (by simp) wr.heap.size (Nat.le_refl _) (by simp)
                obtain ⟨a3, n3, c3, u3, g3, r3, h3, l3, b3, s3⟩ := byt_next h2 (UInt8.ofNat M) ((M : Int)) (by first | (simp [UInt8.toNat_ofNat']; done) | (simp [UInt8.toNat_ofNat']; omega)) (by simp) wr.heap.size l2 s2
                rw [hsz1] at r2
                have hbf : Below wr.heap.size wr u3 := ((hbel1).trans b2).trans b3
                have hin := (HBY.out.1.rw'.below hbf).byt
                have hfe : [UInt8.ofNat t] ++ [129] ++ [UInt8.ofNat M] = Mt.frontL t M := by rw [hf]; rfl
                rw [hfe] at h3
                have hcv1 := byt_conv h3
                have hcv2 := byt_conv hin
                have hadd := fun wx => run_string_add_sum (w := wx) (P := Try.prog) (Mt.str (Mt.frontL t M)) (Mt.str (D ++ bs)) (by rw [Mt.str_size, Mt.str_size]; have := (Mt.frontL_length t M).1; have := HMB.out; rw [List.length_append]; omega)
                rw [Mt.str_append] at hadd
                have HBF : Hid (Below w.heap.size w u3) := HBW.out.trans (hbf.mono HBW.out.size)
                clear hfe hbf hin hone hbel1 hsz1 h2 l2 b2 s2 h3 l3 b3 s3 hf
                go_wp2_with (first | (at_builtin; refine wpList_append_run rfl (.tmp 96) (.tmp 97) 122 122 rfl _ _ rfl rfl r2 ?_) | (at_builtin; refine wpList_append_run rfl (.tmp 98) (.tmp 101) 122 122 rfl _ _ rfl rfl r3 ?_))
                refine bodyPost_ret (v := putV (.ok (Mt.frontL t M ++ (D ++ bs)))) (by simp [results, Try.results69, go_sem, putV]) rfl ⟨by rw [HRO.out], HBF.out⟩
              · have hdq : decide (M < 128) = false := decide_eq_false q1
                have hf2 := Lib.hid hf
                clear hf
                go_upto_region 24 with fail
                have hdq2 : decide (M < 256) = false := decide_eq_false q2
                go_upto_region 26 with fail
                clear hdq2
                have hdq3 : decide ((M : Int) < 65536) = true := decide_eq_true (by omega)
                go_upto_region 27 with fail
                clear hdq3
                have hf := hf2.out
                have hq3j : (M : Int) / 256 < 256 := by omega
                have hq3k : 0 ≤ (M : Int) / 256 := by omega
                obtain ⟨a2, n2, c2, u2, g2, r2, h2, l2, b2, s2⟩ := byt_next hone (130) (130) (rfl) (by simp) wr.heap.size (Nat.le_refl _) (by simp)
                obtain ⟨a3, n3, c3, u3, g3, r3, h3, l3, b3, s3⟩ := byt_next h2 (UInt8.ofNat (M / 256)) ((M : Int) / 256) (by first | (simp [UInt8.toNat_ofNat']; done) | (simp [UInt8.toNat_ofNat']; omega)) (by simp) wr.heap.size l2 s2
                obtain ⟨a4, n4, c4, u4, g4, r4, h4, l4, b4, s4⟩ := byt_next h3 (UInt8.ofNat (M % 256)) ((M : Int) % 256) (by first | (simp [UInt8.toNat_ofNat']; done) | (simp [UInt8.toNat_ofNat']; omega)) (by simp) wr.heap.size l3 s3
                rw [hsz1] at r2
                have hbf : Below wr.heap.size wr u4 := (((hbel1).trans b2).trans b3).trans b4
                have hin := (HBY.out.1.rw'.below hbf).byt
                have hfe : [UInt8.ofNat t] ++ [130] ++ [UInt8.ofNat (M / 256)] ++ [UInt8.ofNat (M % 256)] = Mt.frontL t M := by rw [hf]; rfl
                rw [hfe] at h4
                have hcv1 := byt_conv h4
                have hcv2 := byt_conv hin
                have hadd := fun wx => run_string_add_sum (w := wx) (P := Try.prog) (Mt.str (Mt.frontL t M)) (Mt.str (D ++ bs)) (by rw [Mt.str_size, Mt.str_size]; have := (Mt.frontL_length t M).1; have := HMB.out; rw [List.length_append]; omega)
                rw [Mt.str_append] at hadd
                have HBF : Hid (Below w.heap.size w u4) := HBW.out.trans (hbf.mono HBW.out.size)
                clear hfe hbf hin hone hbel1 hsz1 h2 l2 b2 s2 h3 l3 b3 s3 h4 l4 b4 s4 hf hf2 q1 q2 q3 hbig hdq
                go_wp2_with (first | (at_builtin; refine wpList_append_run rfl (.tmp 105) (.tmp 106) 122 122 rfl _ _ rfl rfl r2 ?_) | (at_builtin; refine wpList_append_run rfl (.tmp 107) (.tmp 111) 122 122 rfl _ _ rfl rfl r3 ?_) | (at_builtin; refine wpList_append_run rfl (.tmp 112) (.tmp 116) 122 122 rfl _ _ rfl rfl r4 ?_))
                refine bodyPost_ret (v := putV (.ok (Mt.frontL t M ++ (D ++ bs)))) (by simp [results, Try.results69, go_sem, putV]) rfl ⟨by rw [HRO.out], HBF.out⟩
              · have hdq : decide (M < 128) = false := decide_eq_false q1
                have hf2 := Lib.hid hf
                clear hf
                go_upto_region 24 with fail
                have hdq2 : decide (M < 256) = false := decide_eq_false q2
                go_upto_region 26 with fail
                clear hdq2
                have hdq3 : decide ((M : Int) < 65536) = false := decide_eq_false (by omega)
                go_upto_region 28 with fail
                clear hdq3
                have hf := hf2.out
                have hq3j : (M : Int) / 65536 < 256 := by omega
                have hq3k : 0 ≤ (M : Int) / 65536 := by omega
                obtain ⟨a2, n2, c2, u2, g2, r2, h2, l2, b2, s2⟩ := byt_next hone (131) (131) (rfl) (by simp) wr.heap.size (Nat.le_refl _) (by simp)
                obtain ⟨a3, n3, c3, u3, g3, r3, h3, l3, b3, s3⟩ := byt_next h2 (UInt8.ofNat (M / 65536)) ((M : Int) / 65536) (by first | (simp [UInt8.toNat_ofNat']; done) | (simp [UInt8.toNat_ofNat']; omega)) (by simp) wr.heap.size l2 s2
                obtain ⟨a4, n4, c4, u4, g4, r4, h4, l4, b4, s4⟩ := byt_next h3 (UInt8.ofNat (M / 256 % 256)) ((M : Int) / 256 % 256) (by first | (simp [UInt8.toNat_ofNat']; done) | (simp [UInt8.toNat_ofNat']; omega)) (by simp) wr.heap.size l3 s3
                obtain ⟨a5, n5, c5, u5, g5, r5, h5, l5, b5, s5⟩ := byt_next h4 (UInt8.ofNat (M % 256)) ((M : Int) % 256) (by first | (simp [UInt8.toNat_ofNat']; done) | (simp [UInt8.toNat_ofNat']; omega)) (by simp) wr.heap.size l4 s4
                rw [hsz1] at r2
                have hbf : Below wr.heap.size wr u5 := ((((hbel1).trans b2).trans b3).trans b4).trans b5
                have hin := (HBY.out.1.rw'.below hbf).byt
                have hfe : [UInt8.ofNat t] ++ [131] ++ [UInt8.ofNat (M / 65536)] ++ [UInt8.ofNat (M / 256 % 256)] ++ [UInt8.ofNat (M % 256)] = Mt.frontL t M := by rw [hf]; rfl
                rw [hfe] at h5
                have hcv1 := byt_conv h5
                have hcv2 := byt_conv hin
                have hadd := fun wx => run_string_add_sum (w := wx) (P := Try.prog) (Mt.str (Mt.frontL t M)) (Mt.str (D ++ bs)) (by rw [Mt.str_size, Mt.str_size]; have := (Mt.frontL_length t M).1; have := HMB.out; rw [List.length_append]; omega)
                rw [Mt.str_append] at hadd
                have HBF : Hid (Below w.heap.size w u5) := HBW.out.trans (hbf.mono HBW.out.size)
                clear hfe hbf hin hone hbel1 hsz1 h2 l2 b2 s2 h3 l3 b3 s3 h4 l4 b4 s4 h5 l5 b5 s5 hf hf2 q1 q2 q3 hbig hdq
                go_wp2_with (first | (at_builtin; refine wpList_append_run rfl (.tmp 118) (.tmp 119) 122 122 rfl _ _ rfl rfl r2 ?_) | (at_builtin; refine wpList_append_run rfl (.tmp 120) (.tmp 124) 122 122 rfl _ _ rfl rfl r3 ?_) | (at_builtin; refine wpList_append_run rfl (.tmp 125) (.tmp 130) 122 122 rfl _ _ rfl rfl r4 ?_) | (at_builtin; refine wpList_append_run rfl (.tmp 131) (.tmp 135) 122 122 rfl _ _ rfl rfl r5 ?_))
                refine bodyPost_ret (v := putV (.ok (Mt.frontL t M ++ (D ++ bs)))) (by simp [results, Try.results69, go_sem, putV]) rfl ⟨by rw [HRO.out], HBF.out⟩
    · have hput := Mt.ask_put (d + 1) n hq
      rw [hput]
      clear hput ih hsm
      unfold Mt.askN at hq ⊢
      rw [if_neg (by simp)] at hq ⊢
      generalize n.tag = t at *
      generalize n.data = D at *
      generalize n.kids.length = m at *
      have hds : (Mt.str D).size = D.length := Mt.str_size D
      have HB2 := HB
      clear hn hd
      by_cases hlo : t < 0
      · have hd1 : decide (t < 0) = true := decide_eq_true hlo
        have hbt : Mt.badTag t := .inl hlo
        rw [if_pos hbt]
        clear hq hbt
        go_enter Try.func69, Try.ntmps69
        go_wp2_with fail
        refine bodyPost_ret (v := putV (.error 7)) (by simp [results, Try.results69, go_sem, putV]; rfl) rfl ⟨rfl, HB.out⟩
      · have hd1 : decide (t < 0) = false := decide_eq_false hlo
        by_cases hhi : 255 < t
        · have hd2 : decide (255 < t) = true := decide_eq_true hhi
          have hbt : Mt.badTag t := .inr (.inl hhi)
          rw [if_pos hbt]
          clear hq hbt
          go_enter Try.func69, Try.ntmps69
          go_wp2_with fail
          refine bodyPost_ret (v := putV (.error 7)) (by simp [results, Try.results69, go_sem, putV]; rfl) rfl ⟨rfl, HB.out⟩
        · have hd2 : decide (255 < t) = false := decide_eq_false hhi
          have ht0 : 0 ≤ t := by omega
          have ht255 : t ≤ 255 := by omega
          by_cases h31 : t % 32 = 31
          · have h31b : (t % 32 == 31) = true := by simpa using h31
            have hbt : Mt.badTag t := .inr (.inr h31)
            rw [if_pos hbt]
            clear hq hbt h31
            go_enter Try.func69, Try.ntmps69
            go_wp2_with fail
            refine bodyPost_ret (v := putV (.error 7)) (by simp [results, Try.results69, go_sem, putV]; rfl) rfl ⟨rfl, HB.out⟩
          · have h31b : (t % 32 == 31) = false := by simpa using h31
            have hbt : ¬ Mt.badTag t := by unfold Mt.badTag; omega
            rw [if_neg hbt] at hq ⊢
            have hcc : Mt.cons t ∧ D ≠ [] ∨ ¬ Mt.cons t ∧ m ≠ 0 := Classical.byContradiction fun hx => hq (by rw [if_neg hx])
            rw [if_pos hcc]
            unfold Mt.cons at hcc
            clear hq hbt h31
            rcases hcc with ⟨hc, hD⟩ | ⟨hc, hm⟩
            · have hcb : (t / 32 % 2 == 1) = true := by simpa using hc
              have hDp : 0 < D.length := List.length_pos_iff.2 hD
              have hDd : decide (0 < D.length) = true := decide_eq_true hDp
              clear hc hD
              go_enter Try.func69, Try.ntmps69
              go_wp2_with fail
              refine bodyPost_ret (v := putV (.error 4)) (by simp [results, Try.results69, go_sem, putV]; rfl) rfl ⟨rfl, HB.out⟩
            · have hcb : (t / 32 % 2 == 1) = false := by simpa using hc
              have hmp : 0 < m := by omega
              have hmd : decide (0 < m) = true := decide_eq_true hmp
              clear hc hm
              go_enter Try.func69, Try.ntmps69
              go_wp2_with fail
              refine bodyPost_ret (v := putV (.error 4)) (by simp [results, Try.results69, go_sem, putV]; rfl) rfl ⟨rfl, HB.out⟩

theorem rPut_any (n : Mt.Nd) (v : Value) (w : World) (ok : Nat → Prop) (h hs : Nat) (hn : IsNd w ok h v n) (hsm : Mt.Small hs n) :
    Calls Try.prog 46 #[v] w fun e w' => e = .returned (putV (Mt.putL 64 n)) ∧ Below w.heap.size w w' := by
  obtain ⟨a, c, rfl⟩ := hn.form
  have hb := (Below.refl w.heap.size w).alloc (Nat.le_refl _) (.cells #[.int .i64 n.tag, .string (Mt.str n.data), .slice a n.kids.length c] 76)
  have HB := Lib.hid hb
  have HP : Hid (Calls Try.prog 69 #[.agg #[.int .i64 n.tag, .string (Mt.str n.data), .slice a n.kids.length c], .int .i64 1] (w.alloc (.cells #[.int .i64 n.tag, .string (Mt.str n.data), .slice a n.kids.length c] 76)) fun e w' => e = .returned (putV (Mt.putL 64 n)) ∧ Below (w.alloc (.cells #[.int .i64 n.tag, .string (Mt.str n.data), .slice a n.kids.length c] 76)).heap.size (w.alloc (.cells #[.int .i64 n.tag, .string (Mt.str n.data), .slice a n.kids.length c] 76)) w') :=
    rput_any 64 1 rfl n _ _ ok h hs (hn.below hb) hsm
  generalize Mt.putL 64 n = P at *
  clear hb hn hsm
  go_enter Try.func46, Try.ntmps46
  go_wp2_with fail
  refine (HP.out).mono ?_
  rintro x w1 ⟨rfl, hb1⟩
  have HB1 := Lib.hid (HB.out.trans (hb1.mono HB.out.size))
  clear hb1
  cases P with
  | error e =>
    simp only [putV]
    go_wp2_with fail
    refine bodyPost_ret (v := putV (.error e)) (by simp [results, Try.results46, go_sem, putV]) rfl ⟨rfl, HB1.out⟩
  | ok s =>
    simp only [putV]
    go_wp2_with fail
    refine bodyPost_ret (v := putV (.ok s)) (by simp [results, Try.results46, go_sem, putV]) rfl ⟨rfl, HB1.out⟩
end Go.Proofs.Ytcijjblcoelabaa
