/-
  Some texts of one proof, one behind the other.
-/
import Derived.Deep.RegionLaw
import Derived.Test.YtnioagojiipjlaaGreatPk11
import Derived.Test.YtnioagojiipjlaaGreatPk13

/-
  What Left, Len, Gen come to.
-/
namespace Go.Proofs.YtnioagojiipjlaaGreat
open Go.RowKit
section
variable {w u : World} {J B bl bm : Nat} {j : Mt.Jn} {d : Mt.Dk}
theorem len_nil (w : World) : Calls Tryz.prog 45 #[.pointer none] w fun e w' => e = .returned (.int .i64 0) ∧ w = w' := by
  go_enter Tryz.func45, Tryz.ntmps45
  go_wp2
  go_ret
  exact ⟨rfl, rfl⟩
theorem gen_nil (w : World) : Calls Tryz.prog 33 #[.pointer none] w fun e w' => e = .returned (.int .i64 0) ∧ w = w' := by
  go_enter Tryz.func33, Tryz.ntmps33
  go_wp2
  go_ret
  exact ⟨rfl, rfl⟩
theorem left_nil (w : World) : Calls Tryz.prog 34 #[.pointer none] w fun e w' => e = .returned (.int .i64 0) ∧ w = w' := by
  go_enter Tryz.func34, Tryz.ntmps34
  go_wp2
  go_ret
  exact ⟨rfl, rfl⟩
theorem len_any (h : IsJ w J B j) : Calls Tryz.prog 45 #[.pointer (some ⟨J, 0, none⟩)] w fun e w' => e = .returned (.int .i64 (j.count : Int)) ∧ w = w' := by
  obtain ⟨c0, c1, c2, c3, c4, c5, c6⟩ := h.cells
  clear h
  go_enter Tryz.func45, Tryz.ntmps45
  go_wp2
  go_ret
  exact ⟨rfl, rfl⟩
theorem gen_any (h : IsJ w J B j) (hg : j.gen ≤ 4294967296) : Calls Tryz.prog 33 #[.pointer (some ⟨J, 0, none⟩)] w fun e w' => e = .returned (.int .i64 (j.gen : Int)) ∧ w = w' := by
  obtain ⟨c0, c1, c2, c3, c4, c5, c6⟩ := h.cells
  have hw : IntKind.i64.wrap (j.gen : Int) = (j.gen : Int) := IntWalk.i64_in _ (by omega)
  clear h
  generalize j.gen = g at *
  go_enter Tryz.func33, Tryz.ntmps33
  go_wp2
  go_ret
  exact ⟨rfl, rfl⟩
set_option maxRecDepth 100000 in
theorem left_any (h : JD w J B bl bm j d) : Calls Tryz.prog 34 #[.pointer (some ⟨J, 0, none⟩)] w fun e w' => e = .returned (.int .i64 (j.left d : Int)) ∧ Below w.heap.size w w' := by
  obtain ⟨F, hF⟩ : ∃ F, j.first d.lasts.length = F := ⟨_, rfl⟩
  obtain ⟨z, hz⟩ : ∃ z, Mt.hsize d.lasts.length = z := ⟨_, rfl⟩
  obtain ⟨R, hR⟩ : ∃ R, d.room = R := ⟨_, rfl⟩
  obtain ⟨U, hU⟩ : ∃ U, j.used = U := ⟨_, rfl⟩
  have HC : Hid (∀ u, Below w.heap.size w u → u.cell? ⟨J, 0, none⟩ = some (.pointer (some ⟨B, 0, none⟩)) ∧ u.cell? ⟨J, 5, none⟩ = some (.int .i64 (U : Int))) := Lib.hid (fun u (hb : Below w.heap.size w u) => by have := (h.below hb).jn.cells; rw [hU] at this; exact ⟨this.1, this.2.2.2.2.2.1⟩)
  have HFI : Hid (∀ u, Below w.heap.size w u → Calls Tryz.prog 59 #[.pointer (some ⟨J, 0, none⟩)] u fun e w' => e = .returned (.int .i64 (F : Int)) ∧ Below u.heap.size u w') := Lib.hid (fun u hb => by rw [← hF]; exact first_any (h.below hb))
  have HSI : Hid (∀ u, Below w.heap.size w u → Calls Tryz.prog 60 #[.pointer (some ⟨J, 0, none⟩)] u fun e w' => e = .returned (.int .i64 (z : Int)) ∧ u = w') := Lib.hid (fun u hb => by rw [← hz]; exact size_any (h.below hb))
  have HRO : Hid (∀ u, Below w.heap.size w u → Calls Tryz.prog 61 #[.pointer (some ⟨B, 0, none⟩)] u fun e w' => e = .returned (.int .i64 (R : Int)) ∧ u = w') := Lib.hid (fun u hb => by rw [← hR]; exact room_any (h.below hb).dk)
  have hzl : z ≤ 4095 := by rw [← hz]; exact hsize_le h
  have hFl : F ≤ 4097 := by
    rw [← hF]
    unfold Mt.Jn.first
    have := hsize_le h
    have hh := h.half
    have : j.half = 0 ∨ j.half = 1 := by omega
    rcases this with e | e <;> rw [e] <;> omega
  have hRl : R ≤ 8192 := by rw [← hR]; exact Nat.le_trans h.dk.ok.room h.dk.ok.most
  have hUl : U ≤ 8192 := by rw [← hU]; exact h.used
  have HL := Lib.hid (show (j.left d : Int) = ((min (F + z) R - F - U : Nat) : Int) by rw [← hF, ← hz, ← hR, ← hU]; rfl)
  generalize (j.left d : Int) = r at HL ⊢
  have h1 : IntKind.i64.wrap ((F : Int) + (z : Int)) = (F : Int) + (z : Int) := IntWalk.i64_in _ (by omega)
  have HBD := Lib.hid (And.intro hzl (And.intro hFl (And.intro hRl hUl)))
  have HK := Lib.hid ((Below.refl w.heap.size w).drew)
  have q0 := (HC.out _ (Below.refl _ _)).1
  have q5 := (HC.out _ (Below.refl _ _)).2
  clear h hz hF hR hU hzl hFl hRl hUl
  go_enter Tryz.func34, Tryz.ntmps34
  go_upto_region 3 with fail
  go_region_held3 (fun w' => w'.cell? ⟨J, 0, none⟩ = some (.pointer (some ⟨B, 0, none⟩)) ∧ w'.cell? ⟨J, 5, none⟩ = some (.int .i64 (U : Int)))
    (first
      | go_keep
      | exact qq)
    (first
      | (go_at_call 59; (with_reducible refine (HFI.out _ HK.out).mono ?_); rintro e w2 ⟨rfl, hb⟩; have HK := Lib.hid (HK.out.trans (hb.mono HK.out.size)); have qq := HC.out _ HK.out; clear hb)
      | (go_at_call 60; (with_reducible refine (HSI.out _ HK.out).mono ?_); rintro e w2 ⟨rfl, rfl⟩)
      | (go_at_call 61; (with_reducible refine (HRO.out _ HK.out).mono ?_); rintro e w2 ⟨rfl, rfl⟩))
  all_goals
    have HK := Lib.hid (HK.out.drew)
    go_upto_region 4 with fail
    go_region_held3 (fun w' => w'.cell? ⟨J, 0, none⟩ = some (.pointer (some ⟨B, 0, none⟩)) ∧ w'.cell? ⟨J, 5, none⟩ = some (.int .i64 (U : Int)))
      (first
        | go_keep
        | exact qq)
      (first
        | (go_at_call 59; (with_reducible refine (HFI.out _ HK.out).mono ?_); rintro e w2 ⟨rfl, hb⟩; have HK := Lib.hid (HK.out.trans (hb.mono HK.out.size)); have qq := HC.out _ HK.out; clear hb))
    all_goals
      go_wp2_with fail
      go_ret
      refine ⟨Mt.ret_int ?_, HK.out⟩
      obtain ⟨b1, b2, b3, b4⟩ := HBD.out
      have a1 : IntKind.i64.wrap (min ((F : Int) + (z : Int)) (R : Int) - (F : Int)) = min ((F : Int) + (z : Int)) (R : Int) - (F : Int) := IntWalk.i64_in _ (by omega)
      have a2 : IntKind.i64.wrap (min ((F : Int) + (z : Int)) (R : Int) - (F : Int) - (U : Int)) = min ((F : Int) + (z : Int)) (R : Int) - (F : Int) - (U : Int) := IntWalk.i64_in _ (by omega)
      rw [HL.out, a1, a2]
      omega
end
end Go.Proofs.YtnioagojiipjlaaGreat

/-
  What ask, holds and become come to.
-/
namespace Go.Proofs.YtnioagojiipjlaaGreat
open Go.RowKit

/-- Texts in a slice, wherever they lie. -/
def IsTs (w : World) (v : Value) (ls : List (List UInt8)) : Prop :=
  ∃ a cap, v = .slice a ls.length cap ∧ ls.length ≤ cap ∧ (ls = [] ∨ ∃ b off, a = some ⟨b, off, none⟩ ∧ b < w.heap.size ∧ ∀ j (hj : j < ls.length), w.cell? ⟨b, off + j, none⟩ = some (.string (Mt.str ls[j])))
theorem IsTs.below {w u : World} {v : Value} {ls : List (List UInt8)} (h : IsTs w v ls) (hb : Below w.heap.size w u) : IsTs u v ls := by
  obtain ⟨a, cap, h1, h2, h4⟩ := h
  refine ⟨a, cap, h1, h2, ?_⟩
  rcases h4 with h4 | ⟨b, off, h5, h6, h7⟩
  · exact .inl h4
  · exact .inr ⟨b, off, h5, Nat.lt_of_lt_of_le h6 hb.size, fun i hi => (hb.cell (p := ⟨b, off + i, none⟩) h6).trans (h7 i hi)⟩
/-- A slice of texts, opened: each text where it lies. -/
theorem IsTs.open {w : World} {v : Value} {ls : List (List UInt8)} (h : IsTs w v ls) : ∃ a cap, v = .slice a ls.length cap ∧ Hid (∀ j (hj : j < ls.length), ∃ b off, a = some ⟨b, off, none⟩ ∧ b < w.heap.size ∧ w.cell? ⟨b, off + j, none⟩ = some (.string (Mt.str ls[j]))) := by
  obtain ⟨a, cap, h1, h2, h4⟩ := h
  refine ⟨a, cap, h1, Lib.hid fun j hj => ?_⟩
  rcases h4 with h4 | ⟨b, off, h5, h6, h7⟩
  · subst h4; simp at hj
  · exact ⟨b, off, h5, h6, h7 j hj⟩

section
variable {w u : World} {J B bl bm : Nat} {j : Mt.Jn} {d : Mt.Dk}
theorem ask_nil6 (v : Value) (w : World) : Calls Tryz.prog 47 #[.pointer none, v] w fun e w' => e = .returned (.int .i64 1) ∧ w = w' := by
  go_enter Tryz.func47, Tryz.ntmps47
  go_wp2
  go_ret
  exact ⟨rfl, rfl⟩
theorem Mt.ask_long {j : Mt.Jn} {bs : List (List UInt8)} {k : Nat} (hk : k < bs.length) (hc : j.closed = false) (hl : 262144 < bs[k].length) : Mt.askJ j bs = 5 := by
  unfold Mt.askJ
  rw [hc]
  have : bs.all (fun b => decide (b.length ≤ 262144)) = false := by
    rw [List.all_eq_false]
    exact ⟨bs[k], List.getElem_mem hk, by simp; omega⟩
  rw [this]; rfl
theorem Mt.ask_ok {j : Mt.Jn} {bs : List (List UInt8)} (hc : j.closed = false) (hl : ∀ k (hk : k < bs.length), bs[k].length ≤ 262144) : Mt.askJ j bs = 0 := by
  unfold Mt.askJ
  rw [hc]
  have : bs.all (fun b => decide (b.length ≤ 262144)) = true := by
    rw [List.all_eq_true]
    intro b hb
    obtain ⟨k, hk, rfl⟩ := List.mem_iff_getElem.1 hb
    simpa using hl k hk
  rw [this]; rfl
set_option maxRecDepth 100000 in
theorem ask6_any (h : IsJ w J B j) {v : Value} {bs : List (List UInt8)} (hv : IsTs w v bs) (hn : bs.length ≤ 9223372036854775807) :
    Calls Tryz.prog 47 #[.pointer (some ⟨J, 0, none⟩), v] w fun e w' => e = .returned (.int .i64 (Mt.askJ j bs)) ∧ w = w' := by
  obtain ⟨c0, c1, c2, c3, c4, c5, c6⟩ := h.cells
  clear h
  obtain ⟨a, cap, rfl, HX⟩ := hv.open
  clear hv
  cases hcl : j.closed with
  | true =>
    rw [hcl] at c6
    have HR := Lib.hid (show Mt.askJ j bs = 12 by unfold Mt.askJ; rw [hcl]; rfl)
    clear hcl
    go_enter Tryz.func47, Tryz.ntmps47
    go_wp2
    go_ret
    exact ⟨Mt.ret_int HR.out.symm, rfl⟩
  | false =>
    rw [hcl] at c6
    have HCL := Lib.hid hcl
    clear hcl
    go_enter Tryz.func47, Tryz.ntmps47
    go_wp2_with fail
    go_loop [6, 15] (fun x i => ∃ k : Nat, k ≤ bs.length ∧ i = .int .i64 k ∧ Hid (∀ m (hm : m < bs.length), m < k → bs[m].length ≤ 262144)) (fun _ i => bs.length - (intOf i).toNat)
    case atStart => exact ⟨0, Nat.zero_le _, rfl, Lib.hid fun m _ h => by omega⟩
    case round =>
      obtain ⟨k, hk, rfl, HA⟩ := hrel
      by_cases hlt : k < bs.length
      · obtain ⟨b, off, rfl, hb, hcell⟩ := HX.out k hlt
        obtain ⟨L, hL⟩ : ∃ L, bs[k].length = L := ⟨_, rfl⟩
        have HL := Lib.hid hL
        have hz : (Mt.str bs[k]).size = L := by rw [Mt.str_size, hL]
        clear hL
        generalize Mt.str bs[k] = S at *
        by_cases hl : 262144 < L
        · have hd : decide ((262144 : Int) < (L : Int)) = true := decide_eq_true (by omega)
          have hd2 : decide (262144 < L) = true := decide_eq_true hl
          have HB := Lib.hid hl
          clear hl
          go_wp2_with fail
          go_ret
          exact ⟨Mt.ret_int (Mt.ask_long hlt HCL.out (by rw [HL.out]; exact HB.out)).symm, rfl⟩
        · have hd : decide ((262144 : Int) < (L : Int)) = false := decide_eq_false (by omega)
          have hd2 : decide (262144 < L) = false := decide_eq_false hl
          have HB := Lib.hid hl
          clear hl
          go_wp2_with fail
          go_round
          case rel =>
            refine ⟨k + 1, by omega, by go_num, Lib.hid fun m hm h => ?_⟩
            by_cases e : m = k
            · subst e; have := HB.out; have := HL.out; omega
            · exact HA.out m hm (by omega)
          case measure => simp [intOf]; omega
      · obtain rfl : k = bs.length := by omega
        go_wp2_with fail
        go_ret
        exact ⟨Mt.ret_int (Mt.ask_ok HCL.out (fun m hm => HA.out m hm hm)).symm, rfl⟩

theorem Mt.needs_append (a b : List (List UInt8)) : Mt.needs (a ++ b) = Mt.needs a + Mt.needs b := by
  induction a with
  | nil => simp [Mt.needs]
  | cons x r ih => simp only [List.cons_append, Mt.needs, ih]; omega
theorem Mt.needs_snoc (bs : List (List UInt8)) (k : Nat) (h : k < bs.length) : Mt.needs (bs.take (k + 1)) = Mt.needs (bs.take k) + Mt.cellsN bs[k].length := by
  rw [List.take_succ_eq_append_getElem h, Mt.needs_append]
  simp [Mt.needs]
theorem Mt.cellsN_le (n : Nat) (h : n ≤ 1048576) : Mt.cellsN n ≤ 9534 := by unfold Mt.cellsN; omega
theorem Mt.needs_le (bs : List (List UInt8)) (h : ∀ b ∈ bs, b.length ≤ 1048576) : ∀ k, Mt.needs (bs.take k) ≤ 9534 * k := by
  intro k
  induction k with
  | zero => simp [Mt.needs]
  | succ k ih =>
    by_cases hk : k < bs.length
    · rw [Mt.needs_snoc bs k hk]
      have := Mt.cellsN_le _ (h _ (List.getElem_mem hk))
      omega
    · rw [List.take_of_length_le (by omega)] at ih ⊢
      omega
set_option maxRecDepth 100000 in
theorem holds_any (h : JD w J B bl bm j d) {v : Value} {bs : List (List UInt8)} (hv : IsTs w v bs) (hn : bs.length ≤ 8796093022208) (hb : ∀ b ∈ bs, b.length ≤ 1048576) :
    Calls Tryz.prog 67 #[.pointer (some ⟨J, 0, none⟩), v] w fun e w' => e = .returned (.bool (j.holds d bs)) ∧ Below w.heap.size w w' := by
  have hc := h.jn.cells.1
  have HRO := Lib.hid (room_any h.dk)
  have HLE := Lib.hid (left_any h)
  have HR := Lib.hid (show j.holds d bs = (decide (2 ≤ d.room) && decide (Mt.needs bs ≤ j.left d)) from rfl)
  have hRl : d.room ≤ 8192 := Nat.le_trans h.dk.ok.room h.dk.ok.most
  have hLl : j.left d ≤ 16384 := by unfold Mt.Jn.left; have := hsize_le h; omega
  clear h
  obtain ⟨a, cap, rfl, HX⟩ := hv.open
  clear hv
  have HNL := Lib.hid (Mt.needs_le bs hb)
  have HCL := Lib.hid (fun k (hk : k < bs.length) (u : World) => cells_any bs[k].length u (by have := hb _ (List.getElem_mem hk); omega))
  have HCS := Lib.hid (fun k (hk : k < bs.length) => Mt.cellsN_le bs[k].length (hb _ (List.getElem_mem hk)))
  clear hb
  generalize j.holds d bs = r at HR ⊢
  generalize d.room = R at *
  generalize j.left d = L at *
  go_enter Tryz.func67, Tryz.ntmps67
  go_wp2_with fail
  go_loop [5, 7, 10] (fun s x i => ∃ k : Nat, k ≤ bs.length ∧ i = .int .i64 k ∧ s = .int .i64 (Mt.needs (bs.take k))) (fun _ _ i => bs.length - (intOf i).toNat)
  case atStart => exact ⟨0, Nat.zero_le _, rfl, rfl⟩
  case round =>
    obtain ⟨k, hk, rfl, rfl⟩ := hrel
    by_cases hlt : k < bs.length
    · obtain ⟨b, off, rfl, hb, hcell⟩ := HX.out k hlt
      have hnl := HNL.out k
      have hcs := HCS.out k hlt
      have HSN := Lib.hid (Mt.needs_snoc bs k hlt)
      have HC := Lib.hid (HCL.out k hlt)
      have hz : (Mt.str bs[k]).size = bs[k].length := Mt.str_size _
      generalize Mt.str bs[k] = S at *
      generalize bs[k].length = l at *
      generalize Mt.needs (bs.take k) = s at *
      go_wp2_with fail
      refine (HC.out _).mono ?_
      rintro e w1 ⟨rfl, rfl⟩
      generalize Mt.cellsN l = c at *
      go_wp2_with fail
      go_round
      case rel => exact ⟨k + 1, by omega, by go_num, by rw [HSN.out]; go_num⟩
      case measure => simp [intOf]; omega
    · obtain rfl : k = bs.length := by omega
      have hnl := HNL.out bs.length
      have HT := Lib.hid (show Mt.needs (bs.take bs.length) = Mt.needs bs by rw [List.take_length])
      generalize Mt.needs (bs.take bs.length) = s at *
      by_cases h2 : 2 ≤ R
      · have hd : decide ((2 : Int) ≤ (R : Int)) = true := decide_eq_true (by omega)
        have hd2 : decide (2 ≤ R) = true := decide_eq_true h2
        have HD := Lib.hid hd2
        clear h2
        go_wp2_with fail
        refine (HRO.out).mono ?_
        rintro e w1 ⟨rfl, rfl⟩
        go_wp2_with fail
        refine (HLE.out).mono ?_
        rintro e w1 ⟨rfl, hb⟩
        have HB := Lib.hid hb
        clear hb
        go_wp2_with fail
        go_ret
        exact ⟨Mt.ret_bool (by rw [HR.out, HD.out, ← HT.out, Bool.eq_iff_iff]; simp), HB.out⟩
      · have hd : decide ((2 : Int) ≤ (R : Int)) = false := decide_eq_false (by omega)
        have hd2 : decide (2 ≤ R) = false := decide_eq_false h2
        have HD := Lib.hid hd2
        clear h2
        go_wp2_with fail
        refine (HRO.out).mono ?_
        rintro e w1 ⟨rfl, rfl⟩
        go_wp2_with fail
        go_ret
        exact ⟨Mt.ret_bool (by rw [HR.out, HD.out]; rfl), Below.refl _ _⟩
end
end Go.Proofs.YtnioagojiipjlaaGreat

/-
  What New of the document's disk comes to.
-/
namespace Go.Proofs.YtnioagojiipjlaaGreat
open Go.RowKit Go.Maps

/-- The new disk, while its rows grow. -/
structure Nw (w : World) (R a b : Nat) (vL vW : Value) : Prop where
  row : w.heap[R]? = some (.cells #[vL, vW, .bool false, .int .i64 0, .bool false, .int .i64 0, .int .u64 0, .int .i64 0, .int .i64 0, .slice none 0 0] 67 (0, 0))
  l : w.ownsRow (R + 1) 9 1 vL a (List.replicate a (.string (Mt.str Mt.blank)))
  v : w.ownsRow (R + 1) 9 1 vW b (List.replicate b (.string ByteArray.empty))
  ne : vL.ownBlock = none ∨ vL.ownBlock ≠ vW.ownBlock
  nl : a = 0 → vL = .slice none 0 0
  nw : b = 0 → vW = .slice none 0 0
section
variable {x y : World} {R a b : Nat} {vL vW : Value}
theorem Nw.lt (h : Nw x R a b vL vW) : R < x.heap.size := lt_of_block h.row
theorem Nw.below (h : Nw x R a b vL vW) (hb : Below x.heap.size x y) : Nw y R a b vL vW :=
  ⟨by rw [hb.block _ h.lt]; exact h.row, own_at h.l fun k _ hk => hb.block k hk, own_at h.v fun k _ hk => hb.block k hk, h.ne, h.nl, h.nw⟩
theorem Nw.drew (h : Nw x R a b vL vW) : Nw x.drew R a b vL vW := ⟨h.row, h.l, h.v, h.ne, h.nl, h.nw⟩
theorem Nw.alloc (h : Nw x R a b vL vW) (o : Obj) : Nw (x.alloc o) R a b vL vW := h.below ((Below.refl _ _).alloc (Nat.le_refl _) o)
theorem Nw.c0 (h : Nw x R a b vL vW) : x.cell? ⟨R, 0, none⟩ = some vL := by rw [cell_of_row _ _ _ _ _ _ h.row]; rfl
theorem Nw.c1 (h : Nw x R a b vL vW) : x.cell? ⟨R, 1, none⟩ = some vW := by rw [cell_of_row _ _ _ _ _ _ h.row]; rfl
theorem Nw.f (h : Nw x R a b vL vW) (i : Nat) : x.frozen? ⟨R, i, none⟩ = false := frozen_of_row _ _ _ _ _ h.row
theorem own_kept {w u : World} {base : Nat} {e : TypeId} {size : Nat} {v : Value} {n : Nat} {xs : List Value} (h : w.ownsRow base e size v n xs) (hk : ∀ k, v.ownBlock = some k → u.heap[k]? = w.heap[k]?) : u.ownsRow base e size v n xs := by
  refine ⟨h.1, ?_⟩
  rcases h.2 with h | ⟨g, cap, cur, h1, h2, h3, h4⟩
  · exact .inl h
  · exact .inr ⟨g, cap, cur, h1, h2, by rw [hk g (by rw [h1]; rfl)]; exact h3, h4⟩
theorem Nw.stepL (h : Nw x R a b vL vW) (hg : x.grownBy y vL.ownBlock) (gg cap : Nat) (hown : y.ownsRow (R + 1) 9 1 (.slice (some ⟨gg, 0, none⟩) (a + 1) cap) (a + 1) (List.replicate a (.string (Mt.str Mt.blank)) ++ [.string (Mt.str Mt.blank)])) (hat : vL.ownBlock = some gg ∨ gg = x.heap.size) :
    y.cell? ⟨R, 0, none⟩ = some vL ∧ y.frozen? ⟨R, 0, none⟩ = false ∧ Nw (y.setCell ⟨R, 0, none⟩ (.slice (some ⟨gg, 0, none⟩) (a + 1) cap)) R (a + 1) b (.slice (some ⟨gg, 0, none⟩) (a + 1) cap) vW := by
  have hr : y.heap[R]? = x.heap[R]? := hg.block R h.lt (fun e => by have := (h.l.lt R e.symm).1; omega)
  rw [h.row] at hr
  have hs := heap_setCell_same y R 0 _ _ (.slice (some ⟨gg, 0, none⟩) (a + 1) cap) hr
  have ho : ∀ k, k ≠ R → (y.setCell ⟨R, 0, none⟩ (.slice (some ⟨gg, 0, none⟩) (a + 1) cap)).heap[k]? = y.heap[k]? := fun k hk => heap_setCell_other _ _ _ _ hk
  refine ⟨by rw [cell_of_row _ _ _ _ _ _ hr]; rfl, frozen_of_row _ _ _ _ _ hr, hs, ?_, ?_, ?_, (fun e => by cases e), h.nw⟩
  · rw [List.replicate_succ']
    exact own_at hown fun k h1 _ => ho k (by omega)
  · refine own_kept h.v fun k hk => ?_
    have hk2 := h.v.lt k hk
    rw [ho k (by omega)]
    refine hg.block k hk2.2 (fun e => ?_)
    rcases h.ne with h0 | h0
    · rw [h0] at e; cases e
    · exact h0 (by rw [hk, ← e])
  · right
    intro e
    have e2 : vW.ownBlock = some gg := e.symm
    rcases hat with h0 | h0
    · rcases h.ne with h1 | h1
      · rw [h1] at h0; cases h0
      · exact h1 (by rw [h0, e2])
    · have := (h.v.lt gg e2).2; omega
theorem Nw.stepW (h : Nw x R a b vL vW) (hg : x.grownBy y vW.ownBlock) (gg cap : Nat) (hown : y.ownsRow (R + 1) 9 1 (.slice (some ⟨gg, 0, none⟩) (b + 1) cap) (b + 1) (List.replicate b (.string ByteArray.empty) ++ [.string ByteArray.empty])) (hat : vW.ownBlock = some gg ∨ gg = x.heap.size) :
    y.cell? ⟨R, 1, none⟩ = some vW ∧ y.frozen? ⟨R, 1, none⟩ = false ∧ Nw (y.setCell ⟨R, 1, none⟩ (.slice (some ⟨gg, 0, none⟩) (b + 1) cap)) R a (b + 1) vL (.slice (some ⟨gg, 0, none⟩) (b + 1) cap) := by
  have hr : y.heap[R]? = x.heap[R]? := hg.block R h.lt (fun e => by have := (h.v.lt R e.symm).1; omega)
  rw [h.row] at hr
  have hs := heap_setCell_same y R 1 _ _ (.slice (some ⟨gg, 0, none⟩) (b + 1) cap) hr
  have ho : ∀ k, k ≠ R → (y.setCell ⟨R, 1, none⟩ (.slice (some ⟨gg, 0, none⟩) (b + 1) cap)).heap[k]? = y.heap[k]? := fun k hk => heap_setCell_other _ _ _ _ hk
  refine ⟨by rw [cell_of_row _ _ _ _ _ _ hr]; rfl, frozen_of_row _ _ _ _ _ hr, hs, ?_, ?_, ?_, h.nl, (fun e => by cases e)⟩
  · refine own_kept h.l fun k hk => ?_
    have hk2 := h.l.lt k hk
    rw [ho k (by omega)]
    refine hg.block k hk2.2 (fun e => ?_)
    rcases h.ne with h0 | h0
    · rw [h0] at hk; cases hk
    · exact h0 (by rw [hk, ← e])
  · rw [List.replicate_succ']
    exact own_at hown fun k h1 _ => ho k (by omega)
  · rcases h.ne with h1 | h1
    · exact .inl h1
    · right
      intro e
      have e2 : vL.ownBlock = some gg := e
      rcases hat with h0 | h0
      · exact h1 (by rw [h0, e2])
      · have := (h.l.lt gg e2).2; omega
theorem txts_own {w : World} {base g k cap : Nat} {s : ByteArray} {f : Nat → ByteArray} (h : w.ownsRow base 9 1 (.slice (some ⟨g, 0, none⟩) k cap) k (List.replicate k (.string s))) (hf : ∀ i, i < k → f i = s) : txts w g k f := by
  rcases h.2 with h | ⟨g', cap', cur, h1, h2, h3, h4, h5, h6, h7⟩
  · cases h.1
  · injection h1 with h1 _ _
    injection h1 with h1
    injection h1 with h1
    subst h1
    refine ⟨cur, h3, fun i hi => ?_⟩
    rw [hf i hi]
    have e : (cur.toList.take (k * 1))[i]? = some (.string s) := by rw [h7]; simp [hi]
    rw [List.getElem?_take, if_pos (by omega)] at e
    simpa using e
theorem Nw.rd (h : Nw x R a a vL vW) (ha : a ≤ 8192) : ∃ g : Rg, g.R = R ∧ R ≤ g.bl ∧ R ≤ g.bw ∧ (g.bl < g.D ∧ g.bw < g.D ∧ g.P = (fun _ => False) ∧ g.D = x.heap.size) ∧ IsR x g 0 (Mt.Dk.new a) := by
  have hl : (Mt.Dk.new a).lasts.length = a := by simp [Mt.Dk.new]
  rcases Nat.eq_zero_or_pos a with h0 | h0
  · subst h0
    obtain rfl := h.nl rfl
    obtain rfl := h.nw rfl
    exact ⟨⟨R, R, R, x.heap.size, 0, 0, fun _ => False⟩, rfl, Nat.le_refl _, Nat.le_refl _, ⟨h.lt, h.lt, rfl, rfl⟩, false, 0, .slice none 0 0, 0, [], ⟨Mt.Dk.ok_new 0 ha, h.row, fun h => absurd hl h, fun h => absurd hl h, World.ownsRow_nil _ _ _ _, h.lt, fun h => absurd hl h, Nat.le_refl _, rfl, by decide, (fun k e => by cases e), fun k hk => hk.elim⟩, Nat.le_refl _⟩
  · obtain ⟨gl, cl, rfl⟩ := own_form h.l h0
    obtain ⟨gw, cw, rfl⟩ := own_form h.v h0
    have l1 := h.l.lt gl rfl
    have l2 := h.v.lt gw rfl
    have hne : gl ≠ gw := by
      rcases h.ne with e | e
      · cases e
      · intro h; subst h; exact e rfl
    refine ⟨⟨R, gl, gw, x.heap.size, cl, cw, fun _ => False⟩, rfl, by show R ≤ gl; omega, by show R ≤ gw; omega, ⟨l1.2, l2.2, rfl, rfl⟩, false, 0, .slice none 0 0, 0, [], ⟨Mt.Dk.ok_new a ha, ?_, fun _ => ?_, fun _ => ?_, World.ownsRow_nil _ _ _ _, h.lt, fun _ => ⟨l1.2, l2.2, hne, by show gl ≠ R; omega, by show gw ≠ R; omega⟩, Nat.le_refl _, ?_, by decide, (fun k e => by cases e), fun k hk => hk.elim⟩, Nat.le_refl _⟩
    · rw [h.row]
      unfold rCells
      rw [hl, slc_pos (by omega), slc_pos (by omega)]
      rfl
    · rw [hl]
      refine txts_own h.l fun i hi => ?_
      unfold lastT
      simp [Mt.Dk.new, hi]
    · rw [hl]
      refine txts_own h.v fun i hi => ?_
      unfold waitT
      simp [Mt.Dk.new, Mt.noWaits, wtxt, hi]
    · rw [hl]; rfl
end

set_option maxHeartbeats 1000000 in
set_option maxRecDepth 100000 in
theorem enew_any (n : Int) (w : World) : Calls Tryz.prog 7 #[.int .i64 n] w fun e w' => ∃ g : Rg, e = .returned (.pointer (some ⟨g.R, 0, none⟩)) ∧ w.heap.size ≤ g.R ∧ w.heap.size ≤ g.bl ∧ w.heap.size ≤ g.bw ∧ (g.bl < g.D ∧ g.bw < g.D ∧ g.P = (fun _ => False) ∧ g.D = w'.heap.size) ∧ IsR w' g 0 (Mt.Dk.new (min n.toNat 8192)) ∧ Below w.heap.size w w' := by
  obtain ⟨i0, hi, hz0, hz1, hz2⟩ := info_parts Tryz.infoStr
  obtain ⟨m, hm⟩ : ∃ m, min n.toNat 8192 = m := ⟨_, rfl⟩
  have HM := Lib.hid hm
  have hm8 : m ≤ 8192 := by omega
  rw [hm]
  clear hm
  obtain ⟨R, hR⟩ : ∃ R, w.heap.size = R := ⟨_, rfl⟩
  have HR := Lib.hid hR
  clear hR
  go_enter Tryz.func7, Tryz.ntmps7
  go_wp2_with fail
  have HB0 := Lib.hid ((Below.refl w.heap.size w).alloc (Nat.le_refl _) (.cells #[.slice none 0 0, .slice none 0 0, .bool false, .int .i64 0, .bool false, .int .i64 0, .int .u64 0, .int .i64 0, .int .i64 0, .slice none 0 0] 67))
  have HN0 : Hid (Nw (w.alloc (.cells #[.slice none 0 0, .slice none 0 0, .bool false, .int .i64 0, .bool false, .int .i64 0, .int .u64 0, .int .i64 0, .int .i64 0, .slice none 0 0] 67)) w.heap.size 0 0 (.slice none 0 0) (.slice none 0 0)) := Lib.hid ⟨heap_alloc_new _ _, World.ownsRow_nil _ _ _ _, World.ownsRow_nil _ _ _ _, .inl rfl, fun _ => rfl, fun _ => rfl⟩
  generalize (w.alloc (.cells #[.slice none 0 0, .slice none 0 0, .bool false, .int .i64 0, .bool false, .int .i64 0, .int .u64 0, .int .i64 0, .int .i64 0, .slice none 0 0] 67)) = w1 at *
  rw [HR.out] at HN0 ⊢
  go_loopw [4] (fun i wr => ∃ (k : Nat) (vL vW : Value), k ≤ m ∧ i = .int .i64 k ∧ Hid (Nw wr R k k vL vW) ∧ Hid (Below w.heap.size w wr))
    (fun i _ => m - (intOf i).toNat)
  case atStart => exact ⟨0, _, _, by omega, rfl, HN0, HB0⟩
  case round =>
    clear HN0 HB0
    obtain ⟨k, vL, vW, hk, rfl, HNW, HB⟩ := hrel
    by_cases hkm : k < m
    · have h1 : (k : Int) < n := by have := HM.out; omega
      have h2 : (k : Int) < 8192 := by omega
      have HBL := Lib.hid (fun u => blank_any 128 (by decide) u)
      have c0 := HNW.out.c0
      have HLT := Lib.hid HNW.out.lt
      obtain ⟨Z, hZ⟩ : ∃ Z, Mt.str (List.replicate 128 0) = Z := ⟨_, rfl⟩
      have HZ : Hid (Z = Mt.str Mt.blank) := Lib.hid hZ.symm
      rw [hZ] at HBL
      clear hZ
      go_upto_region 5 with fail
      go_region_law (first
        | (go_simp; refine (HBL.out _).mono ?_; rintro e w2 ⟨rfl, hb⟩; have HN2 := Lib.hid (HNW.out.drew.below hb); have HB2 := Lib.hid (HB.out.drew.trans (hb.mono HB.out.size)); have c0 := HN2.out.c0; have hlt2 := HN2.out.lt; clear hb)
        | (refine step_append_lies _ (by rfl) _ _ _ (by rfl) (R + 1) 9 i0 _ 1 16 Tryz.underlying30 hi hz0 hz1 hz2 rfl (by decide) vL k _ (by rfl) ((HN2.out.alloc _)).l ⟨w2.heap.size, 0, none⟩ 1 1 [.string Z] (by rfl) (by rfl) (World.news_of_block (cs := #[.string Z]) (t := 9) (fr := (0, 0)) (heap_alloc_new w2 _)) (by simp [Value.oneCell']) (by decide) (by unfold maxLen; omega) (by omega) (by have := HN2.out.lt; simp; omega) (w2.heap.size + 1) (by simp) ?_; intro gg cap w4 hown4 hgr4 hat4 hlt4; have HN4 := Lib.hid ((HN2.out.alloc _).stepL hgr4 gg cap (by have h := hown4; rw [HZ.out] at h; exact h) (by simpa using hat4)); have HB4 := Lib.hid ((HB2.out.alloc (by have := HB2.out.size; omega) _).grown hgr4 (by have := HB2.out.size; simp; omega) (fun j hj => by have := (HN2.out.l.lt j hj).1; have := HR.out; omega)); have c0' := HN4.out.1; have f0' := HN4.out.2.1))
      all_goals
        have HN5 := Lib.hid HN4.out.2.2
        have HB5 := Lib.hid (Below.setCell HB4.out (p := ⟨R, 0, none⟩) (by rw [HR.out]; exact Nat.le_refl _) (.slice (some ⟨gg, 0, none⟩) (k + 1) cap))
        clear c0' f0' hown4 hgr4 hat4 hlt4 HN4 HB4 HN2 HB2 c0 hlt2
        generalize (w4.setCell ⟨R, 0, none⟩ (.slice (some ⟨gg, 0, none⟩) (k + 1) cap)) = u at *
        have c1 := HN5.out.c1
        have hlt5 := HN5.out.lt
        go_wp2_with (at_builtin; go_must (refine wpList_append_lies _ rfl _ _ _ rfl (R + 1) 9 i0 _ 1 16 Tryz.underlying30 hi hz0 hz1 hz2 rfl (by decide) vW k _ rfl (HN5.out.alloc _).v ⟨u.heap.size, 0, none⟩ 1 1 [.string ByteArray.empty] rfl rfl (World.news_of_block (cs := #[.string ByteArray.empty]) (t := 9) (fr := (0, 0)) (heap_alloc_new u _)) (by simp [Value.oneCell']) (by decide) (by unfold maxLen; omega) (by omega) (by have := HN5.out.lt; simp; omega) (u.heap.size + 1) (by simp) ?_); intro gg6 cap6 w6 hown6 hgr6 hat6 hlt6; have HN6 := Lib.hid ((HN5.out.alloc _).stepW hgr6 gg6 cap6 hown6 (by simpa using hat6)); have HB6 := Lib.hid ((HB5.out.alloc (by have := HB5.out.size; omega) _).grown hgr6 (by have := HB5.out.size; simp; omega) (fun j hj => by have := (HN5.out.v.lt j hj).1; have := HR.out; omega)); have c1' := HN6.out.1; have f1' := HN6.out.2.1)
        have HN7 := Lib.hid HN6.out.2.2
        have HB7 := Lib.hid (Below.setCell HB6.out (p := ⟨R, 1, none⟩) (by rw [HR.out]; exact Nat.le_refl _) (.slice (some ⟨gg6, 0, none⟩) (k + 1) cap6))
        go_roundw
        case rel => exact ⟨k + 1, _, _, by omega, by go_num, HN7, HB7⟩
        case measure => simp [intOf]; omega
    · obtain rfl : k = m := by omega
      obtain ⟨g, h1, h2, h3, h5, h4⟩ := HNW.out.rd hm8
      have HFIN : Hid (g.R = R ∧ w.heap.size ≤ g.R ∧ w.heap.size ≤ g.bl ∧ w.heap.size ≤ g.bw ∧ (g.bl < g.D ∧ g.bw < g.D ∧ g.P = (fun _ => False) ∧ g.D = wr.heap.size) ∧ IsR wr g 0 (Mt.Dk.new k)) := Lib.hid ⟨h1, by have := HR.out; omega, by have := HR.out; omega, by have := HR.out; omega, h5, h4⟩
      clear h1 h2 h3 h4 h5
      by_cases hn : n ≤ k
      · have hn' : decide ((k : Int) < n) = false := decide_eq_false (by omega)
        go_wp2_with fail
        go_ret
        refine ⟨g, ?_, HFIN.out.2.1, HFIN.out.2.2.1, HFIN.out.2.2.2.1, HFIN.out.2.2.2.2.1, HFIN.out.2.2.2.2.2, HB.out⟩
        rw [HFIN.out.1]; rfl
      · have hk8 : k = 8192 := by have := HM.out; omega
        have HK8 := Lib.hid hk8
        have hn' : (k : Int) < n := by omega
        have hn2 : decide ((k : Int) < 8192) = false := decide_eq_false (by omega)
        clear hk8
        go_wp2_with fail
        go_ret
        refine ⟨g, ?_, HFIN.out.2.1, HFIN.out.2.2.1, HFIN.out.2.2.2.1, HFIN.out.2.2.2.2.1, HFIN.out.2.2.2.2.2, HB.out⟩
        rw [HFIN.out.1]; rfl
end Go.Proofs.YtnioagojiipjlaaGreat
