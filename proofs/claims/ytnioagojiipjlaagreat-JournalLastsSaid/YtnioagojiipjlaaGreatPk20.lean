/-
  Some texts of one proof, one behind the other.
-/
import Derived.Test.YtnioagojiipjlaaGreatPk14
import Derived.Test.YtnioagojiipjlaaGreatPk19
set_option linter.unusedVariables false
set_option linter.unusedSimpArgs false

/-
  How a journal lies in memory; readCell; what the journal's calls that only look come to: size, first, Left, Len, Gen.
-/
namespace Go.Proofs.YtnioagojiipjlaaGreat
open Go.RowKit

/-- A sector read as a cell. -/
theorem readCell_any (s : ByteArray) (w : World) : Calls Tryz.prog 64 #[.string s] w fun e w' => e = .returned (.agg (clV (Mt.rdCell s.data.toList))) ∧ Below w.heap.size w w' := by
  by_cases h : s.size = 128 ∧ s.data.toList.getD 4 0 = 67
  · obtain ⟨h1, h2⟩ := h
    have hl : s.data.toList.length = 128 := h1
    by_cases hn : Mt.gn s.data.toList 17 1 ≤ 110
    · have hcmp : ∀ L : List UInt8, (Mt.str L).toList = s.toList ↔ L = s.data.toList := fun L => by rw [ByteArray.toList_eq, ByteArray.toList_eq]; rfl
      have H := fun z hz => rcell_yes s w h1 h2 _ _ _ _ _ _ rfl rfl rfl rfl rfl rfl hn z hz
      by_cases hc : (Mt.cl0 s.data.toList).sound = true ∧ (Mt.cl0 s.data.toList).sector = s.data.toList
      · have e : Mt.rdCell s.data.toList = Mt.cl0 s.data.toList := by unfold Mt.rdCell; rw [if_pos ⟨hl, h2, hn, hc.1, hc.2⟩]
        rw [e]
        exact H false (.inl ⟨rfl, hc.1, (hcmp _).2 hc.2⟩)
      · have e : Mt.rdCell s.data.toList = Mt.Cl.zero := by
          unfold Mt.rdCell
          rw [if_neg]
          rintro ⟨_, _, _, a, b⟩
          exact hc ⟨a, b⟩
        rw [e]
        refine H true (.inr ⟨rfl, ?_⟩)
        cases hs : (Mt.cl0 s.data.toList).sound with
        | false => exact .inl hs
        | true => exact .inr ⟨hs, fun e => hc ⟨hs, (hcmp _).1 e⟩⟩
    · have e : Mt.rdCell s.data.toList = Mt.Cl.zero := by unfold Mt.rdCell; rw [if_neg (fun hc => hn hc.2.2.1)]
      rw [e]
      exact rcell_long s w h1 h2 _ rfl (by omega)
  · have e : Mt.rdCell s.data.toList = Mt.Cl.zero := by unfold Mt.rdCell; rw [if_neg (fun hc => h ⟨hc.1, hc.2.1⟩)]
    rw [e]
    exact rcell_no s w h

/-- A journal's cells. -/
def jnV (B : Nat) (j : Mt.Jn) : Array Value := #[.pointer (some ⟨B, 0, none⟩), .int .u64 (j.gen : Int), .int .i64 (j.half : Int), .int .i64 (j.head : Int), .int .i64 (j.count : Int), .int .i64 (j.used : Int), .bool j.closed]
def IsJ (w : World) (J B : Nat) (j : Mt.Jn) : Prop := w.heap[J]? = some (.cells (jnV B j) 94 (0, 0))
theorem Tryz.szJn : (Tryz.prog.info? 94).map (·.size) = some 7 := by kernel_rfl
/-- A journal and its disk. -/
structure JD (w : World) (J B bl bm : Nat) (j : Mt.Jn) (d : Mt.Dk) : Prop where
  jn : IsJ w J B j
  dk : IsDisk w B bl bm d
  four : 4 ≤ d.lasts.length
  half : j.half ≤ 1
  head : j.head ≤ 1
  gen : j.gen ≤ 4294967296
  used : j.used ≤ 8192
  count : j.count ≤ 8192
section
variable {w u : World} {J B bl bm : Nat} {j : Mt.Jn} {d : Mt.Dk}
theorem IsJ.cells (h : IsJ w J B j) : w.cell? ⟨J, 0, none⟩ = some (.pointer (some ⟨B, 0, none⟩)) ∧ w.cell? ⟨J, 1, none⟩ = some (.int .u64 (j.gen : Int)) ∧ w.cell? ⟨J, 2, none⟩ = some (.int .i64 (j.half : Int)) ∧ w.cell? ⟨J, 3, none⟩ = some (.int .i64 (j.head : Int)) ∧ w.cell? ⟨J, 4, none⟩ = some (.int .i64 (j.count : Int)) ∧ w.cell? ⟨J, 5, none⟩ = some (.int .i64 (j.used : Int)) ∧ w.cell? ⟨J, 6, none⟩ = some (.bool j.closed) := by
  unfold IsJ jnV at h
  simp [World.cell?, h]
theorem IsJ.frozen (h : IsJ w J B j) (i : Nat) : w.frozen? ⟨J, i, none⟩ = false := frozen_of_row _ _ _ _ _ h
theorem IsJ.below (h : IsJ w J B j) (hb : Below w.heap.size w u) : IsJ u J B j := (hb.block _ (lt_of_block h)).trans h
theorem JD.below (h : JD w J B bl bm j d) (hb : Below w.heap.size w u) : JD u J B bl bm j d := ⟨h.jn.below hb, h.dk.below hb, h.four, h.half, h.head, h.gen, h.used, h.count⟩
theorem JD.neJ (h : JD w J B bl bm j d) : J ≠ B ∧ J ≠ bl ∧ J ≠ bm := by
  have h1 := h.jn
  refine ⟨?_, ?_, ?_⟩
  · rintro rfl
    have h2 := h.dk.row
    unfold IsJ at h1
    rw [h1] at h2
    simp [jnV, dkCells] at h2
  · rintro rfl
    have h2 := h.dk.secs
    unfold IsJ at h1
    rw [h1] at h2
    simp at h2
  · rintro rfl
    obtain ⟨D, hD, _⟩ := h.dk.waits
    exact ownsMap_ne hD h1 rfl
theorem hsize_le (h : JD w J B bl bm j d) : Mt.hsize d.lasts.length ≤ 4095 := by have := h.dk.ok.most; unfold Mt.hsize; omega

theorem size_any (h : JD w J B bl bm j d) : Calls Tryz.prog 60 #[.pointer (some ⟨J, 0, none⟩)] w fun e w' => e = .returned (.int .i64 (Mt.hsize d.lasts.length : Int)) ∧ w = w' := by
  have hc := h.jn.cells.1
  have HS := Lib.hid (sectors_any h.dk)
  have hn := h.dk.ok.most
  have h4 := h.four
  have HR := Lib.hid (show (Mt.hsize d.lasts.length : Int) = (((d.lasts.length - 2) / 2 : Nat) : Int) from rfl)
  generalize (Mt.hsize d.lasts.length : Int) = r at HR ⊢
  generalize d.lasts.length = n at *
  clear h
  go_enter Tryz.func60, Tryz.ntmps60
  go_wp2_with fail
  refine (HS.out).mono ?_
  rintro e w1 ⟨rfl, rfl⟩
  go_wp2_with fail
  go_ret
  exact ⟨Mt.ret_int (by rw [HR.out]; omega), rfl⟩
theorem first_any (h : JD w J B bl bm j d) : Calls Tryz.prog 59 #[.pointer (some ⟨J, 0, none⟩)] w fun e w' => e = .returned (.int .i64 (j.first d.lasts.length : Int)) ∧ Below w.heap.size w w' := by
  obtain ⟨z, hz⟩ : ∃ z, Mt.hsize d.lasts.length = z := ⟨_, rfl⟩
  have hc := h.jn.cells.2.2.1
  have HS : Hid (∀ u, Below w.heap.size w u → Calls Tryz.prog 60 #[.pointer (some ⟨J, 0, none⟩)] u fun e w' => e = .returned (.int .i64 (z : Int)) ∧ u = w') := Lib.hid (fun u hb => by rw [← hz]; exact size_any (h.below hb))
  have HC := Lib.hid (fun u (hb : Below w.heap.size w u) => (h.below hb).jn.cells.2.2.1)
  have hzl : z ≤ 4095 := by rw [← hz]; exact hsize_le h
  have hh := h.half
  have HR := Lib.hid (show (j.first d.lasts.length : Int) = ((2 + j.half * z : Nat) : Int) by rw [← hz]; rfl)
  generalize (j.first d.lasts.length : Int) = r at HR ⊢
  generalize j.half = k at *
  have hk : k = 0 ∨ k = 1 := by omega
  have h1 : IntKind.i64.wrap ((k : Int) * (z : Int)) = (k : Int) * (z : Int) := IntWalk.i64_in _ (by rcases hk with rfl | rfl <;> omega)
  have h2 : IntKind.i64.wrap (2 + (k : Int) * (z : Int)) = 2 + (k : Int) * (z : Int) := IntWalk.i64_in _ (by rcases hk with rfl | rfl <;> omega)
  have HK := Lib.hid ((Below.refl w.heap.size w).drew)
  clear h hz hh
  go_enter Tryz.func59, Tryz.ntmps59
  go_upto_region 1 with fail
  go_region_held3 (fun w' => w'.cell? ⟨J, 2, none⟩ = some (.int .i64 (k : Int)))
    (first
      | go_keep
      | exact qq)
    (first
      | (go_at_call 60; (with_reducible refine (HS.out _ HK.out).mono ?_); rintro e w2 ⟨rfl, rfl⟩))
  all_goals
    go_wp2_with fail
    go_ret
    exact ⟨Mt.ret_int (by rw [HR.out]; simp), HK.out⟩
end
end Go.Proofs.YtnioagojiipjlaaGreat

/-
  What Left, Len, Gen come to.
-/
namespace Go.Proofs.YtnioagojiipjlaaGreat
open Go.RowKit
section
variable {w u : World} {J B bl bm : Nat} {j : Mt.Jn} {d : Mt.Dk}
theorem len_nil (w : World) : Calls Tryz.prog 45 #[.pointer none] w fun e w' => e = .returned (.int .i64 0) ∧ w = w' := by
  go_enter Tryz.func45, Tryz.ntmps45
  go_wp2
  go_ret
  exact ⟨rfl, rfl⟩
theorem gen_nil (w : World) : Calls Tryz.prog 33 #[.pointer none] w fun e w' => e = .returned (.int .i64 0) ∧ w = w' := by
  go_enter Tryz.func33, Tryz.ntmps33
  go_wp2
  go_ret
  exact ⟨rfl, rfl⟩
theorem left_nil (w : World) : Calls Tryz.prog 34 #[.pointer none] w fun e w' => e = .returned (.int .i64 0) ∧ w = w' := by
  go_enter Tryz.func34, Tryz.ntmps34
  go_wp2
  go_ret
  exact ⟨rfl, rfl⟩
theorem len_any (h : IsJ w J B j) : Calls Tryz.prog 45 #[.pointer (some ⟨J, 0, none⟩)] w fun e w' => e = .returned (.int .i64 (j.count : Int)) ∧ w = w' := by
  obtain ⟨c0, c1, c2, c3, c4, c5, c6⟩ := h.cells
  clear h
  go_enter Tryz.func45, Tryz.ntmps45
  go_wp2
  go_ret
  exact ⟨rfl, rfl⟩
theorem gen_any (h : IsJ w J B j) (hg : j.gen ≤ 4294967296) : Calls Tryz.prog 33 #[.pointer (some ⟨J, 0, none⟩)] w fun e w' => e = .returned (.int .i64 (j.gen : Int)) ∧ w = w' := by
  obtain ⟨c0, c1, c2, c3, c4, c5, c6⟩ := h.cells
  have hw : IntKind.i64.wrap (j.gen : Int) = (j.gen : Int) := IntWalk.i64_in _ (by omega)
  clear h
  generalize j.gen = g at *
  go_enter Tryz.func33, Tryz.ntmps33
  go_wp2
  go_ret
  exact ⟨rfl, rfl⟩
set_option maxRecDepth 100000 in
theorem left_any (h : JD w J B bl bm j d) : Calls Tryz.prog 34 #[.pointer (some ⟨J, 0, none⟩)] w fun e w' => e = .returned (.int .i64 (j.left d : Int)) ∧ Below w.heap.size w w' := by
  obtain ⟨F, hF⟩ : ∃ F, j.first d.lasts.length = F := ⟨_, rfl⟩
  obtain ⟨z, hz⟩ : ∃ z, Mt.hsize d.lasts.length = z := ⟨_, rfl⟩
  obtain ⟨R, hR⟩ : ∃ R, d.room = R := ⟨_, rfl⟩
  obtain ⟨U, hU⟩ : ∃ U, j.used = U := ⟨_, rfl⟩
  have HC : Hid (∀ u, Below w.heap.size w u → u.cell? ⟨J, 0, none⟩ = some (.pointer (some ⟨B, 0, none⟩)) ∧ u.cell? ⟨J, 5, none⟩ = some (.int .i64 (U : Int))) := Lib.hid (fun u (hb : Below w.heap.size w u) => by have := (h.below hb).jn.cells; rw [hU] at this; exact ⟨this.1, this.2.2.2.2.2.1⟩)
  have HFI : Hid (∀ u, Below w.heap.size w u → Calls Tryz.prog 59 #[.pointer (some ⟨J, 0, none⟩)] u fun e w' => e = .returned (.int .i64 (F : Int)) ∧ Below u.heap.size u w') := Lib.hid (fun u hb => by rw [← hF]; exact first_any (h.below hb))
  have HSI : Hid (∀ u, Below w.heap.size w u → Calls Tryz.prog 60 #[.pointer (some ⟨J, 0, none⟩)] u fun e w' => e = .returned (.int .i64 (z : Int)) ∧ u = w') := Lib.hid (fun u hb => by rw [← hz]; exact size_any (h.below hb))
  have HRO : Hid (∀ u, Below w.heap.size w u → Calls Tryz.prog 61 #[.pointer (some ⟨B, 0, none⟩)] u fun e w' => e = .returned (.int .i64 (R : Int)) ∧ u = w') := Lib.hid (fun u hb => by rw [← hR]; exact room_any (h.below hb).dk)
  have hzl : z ≤ 4095 := by rw [← hz]; exact hsize_le h
  have hFl : F ≤ 4097 := by
    rw [← hF]
    unfold Mt.Jn.first
    have := hsize_le h
    have hh := h.half
    have : j.half = 0 ∨ j.half = 1 := by omega
    rcases this with e | e <;> rw [e] <;> omega
  have hRl : R ≤ 8192 := by rw [← hR]; exact Nat.le_trans h.dk.ok.room h.dk.ok.most
  have hUl : U ≤ 8192 := by rw [← hU]; exact h.used
  have HL := Lib.hid (show (j.left d : Int) = ((min (F + z) R - F - U : Nat) : Int) by rw [← hF, ← hz, ← hR, ← hU]; rfl)
  generalize (j.left d : Int) = r at HL ⊢
  have h1 : IntKind.i64.wrap ((F : Int) + (z : Int)) = (F : Int) + (z : Int) := IntWalk.i64_in _ (by omega)
  have HBD := Lib.hid (And.intro hzl (And.intro hFl (And.intro hRl hUl)))
  have HK := Lib.hid ((Below.refl w.heap.size w).drew)
  have q0 := (HC.out _ (Below.refl _ _)).1
  have q5 := (HC.out _ (Below.refl _ _)).2
  clear h hz hF hR hU hzl hFl hRl hUl
  go_enter Tryz.func34, Tryz.ntmps34
  go_upto_region 3 with fail
  go_region_held3 (fun w' => w'.cell? ⟨J, 0, none⟩ = some (.pointer (some ⟨B, 0, none⟩)) ∧ w'.cell? ⟨J, 5, none⟩ = some (.int .i64 (U : Int)))
    (first
      | go_keep
      | exact qq)
    (first
      | (go_at_call 59; (with_reducible refine (HFI.out _ HK.out).mono ?_); rintro e w2 ⟨rfl, hb⟩; have HK := Lib.hid (HK.out.trans (hb.mono HK.out.size)); have qq := HC.out _ HK.out; clear hb)
      | (go_at_call 60; (with_reducible refine (HSI.out _ HK.out).mono ?_); rintro e w2 ⟨rfl, rfl⟩)
      | (go_at_call 61; (with_reducible refine (HRO.out _ HK.out).mono ?_); rintro e w2 ⟨rfl, rfl⟩))
  all_goals
    have HK := Lib.hid (HK.out.drew)
    go_upto_region 4 with fail
    go_region_held3 (fun w' => w'.cell? ⟨J, 0, none⟩ = some (.pointer (some ⟨B, 0, none⟩)) ∧ w'.cell? ⟨J, 5, none⟩ = some (.int .i64 (U : Int)))
      (first
        | go_keep
        | exact qq)
      (first
        | (go_at_call 59; (with_reducible refine (HFI.out _ HK.out).mono ?_); rintro e w2 ⟨rfl, hb⟩; have HK := Lib.hid (HK.out.trans (hb.mono HK.out.size)); have qq := HC.out _ HK.out; clear hb))
    all_goals
      go_wp2_with fail
      go_ret
      refine ⟨Mt.ret_int ?_, HK.out⟩
      obtain ⟨b1, b2, b3, b4⟩ := HBD.out
      have a1 : IntKind.i64.wrap (min ((F : Int) + (z : Int)) (R : Int) - (F : Int)) = min ((F : Int) + (z : Int)) (R : Int) - (F : Int) := IntWalk.i64_in _ (by omega)
      have a2 : IntKind.i64.wrap (min ((F : Int) + (z : Int)) (R : Int) - (F : Int) - (U : Int)) = min ((F : Int) + (z : Int)) (R : Int) - (F : Int) - (U : Int) := IntWalk.i64_in _ (by omega)
      rw [HL.out, a1, a2]
      omega
end
end Go.Proofs.YtnioagojiipjlaaGreat

/-
  What ask, holds and become come to.
-/
namespace Go.Proofs.YtnioagojiipjlaaGreat
open Go.RowKit

/-- Texts in a slice, wherever they lie. -/
def IsTs (w : World) (v : Value) (ls : List (List UInt8)) : Prop :=
  ∃ a cap, v = .slice a ls.length cap ∧ ls.length ≤ cap ∧ (ls = [] ∨ ∃ b off, a = some ⟨b, off, none⟩ ∧ b < w.heap.size ∧ ∀ j (hj : j < ls.length), w.cell? ⟨b, off + j, none⟩ = some (.string (Mt.str ls[j])))
theorem IsTs.below {w u : World} {v : Value} {ls : List (List UInt8)} (h : IsTs w v ls) (hb : Below w.heap.size w u) : IsTs u v ls := by
  obtain ⟨a, cap, h1, h2, h4⟩ := h
  refine ⟨a, cap, h1, h2, ?_⟩
  rcases h4 with h4 | ⟨b, off, h5, h6, h7⟩
  · exact .inl h4
  · exact .inr ⟨b, off, h5, Nat.lt_of_lt_of_le h6 hb.size, fun i hi => (hb.cell (p := ⟨b, off + i, none⟩) h6).trans (h7 i hi)⟩
/-- A slice of texts, opened: each text where it lies. -/
theorem IsTs.open {w : World} {v : Value} {ls : List (List UInt8)} (h : IsTs w v ls) : ∃ a cap, v = .slice a ls.length cap ∧ Hid (∀ j (hj : j < ls.length), ∃ b off, a = some ⟨b, off, none⟩ ∧ b < w.heap.size ∧ w.cell? ⟨b, off + j, none⟩ = some (.string (Mt.str ls[j]))) := by
  obtain ⟨a, cap, h1, h2, h4⟩ := h
  refine ⟨a, cap, h1, Lib.hid fun j hj => ?_⟩
  rcases h4 with h4 | ⟨b, off, h5, h6, h7⟩
  · subst h4; simp at hj
  · exact ⟨b, off, h5, h6, h7 j hj⟩

section
variable {w u : World} {J B bl bm : Nat} {j : Mt.Jn} {d : Mt.Dk}
theorem ask_nil6 (v : Value) (w : World) : Calls Tryz.prog 47 #[.pointer none, v] w fun e w' => e = .returned (.int .i64 1) ∧ w = w' := by
  go_enter Tryz.func47, Tryz.ntmps47
  go_wp2
  go_ret
  exact ⟨rfl, rfl⟩
theorem Mt.ask_long {j : Mt.Jn} {bs : List (List UInt8)} {k : Nat} (hk : k < bs.length) (hc : j.closed = false) (hl : 262144 < bs[k].length) : Mt.askJ j bs = 5 := by
  unfold Mt.askJ
  rw [hc]
  have : bs.all (fun b => decide (b.length ≤ 262144)) = false := by
    rw [List.all_eq_false]
    exact ⟨bs[k], List.getElem_mem hk, by simp; omega⟩
  rw [this]; rfl
theorem Mt.ask_ok {j : Mt.Jn} {bs : List (List UInt8)} (hc : j.closed = false) (hl : ∀ k (hk : k < bs.length), bs[k].length ≤ 262144) : Mt.askJ j bs = 0 := by
  unfold Mt.askJ
  rw [hc]
  have : bs.all (fun b => decide (b.length ≤ 262144)) = true := by
    rw [List.all_eq_true]
    intro b hb
    obtain ⟨k, hk, rfl⟩ := List.mem_iff_getElem.1 hb
    simpa using hl k hk
  rw [this]; rfl
set_option maxRecDepth 100000 in
theorem ask6_any (h : IsJ w J B j) {v : Value} {bs : List (List UInt8)} (hv : IsTs w v bs) (hn : bs.length ≤ 9223372036854775807) :
    Calls Tryz.prog 47 #[.pointer (some ⟨J, 0, none⟩), v] w fun e w' => e = .returned (.int .i64 (Mt.askJ j bs)) ∧ w = w' := by
  obtain ⟨c0, c1, c2, c3, c4, c5, c6⟩ := h.cells
  clear h
  obtain ⟨a, cap, rfl, HX⟩ := hv.open
  clear hv
  cases hcl : j.closed with
  | true =>
    rw [hcl] at c6
    have HR := Lib.hid (show Mt.askJ j bs = 12 by unfold Mt.askJ; rw [hcl]; rfl)
    clear hcl
    go_enter Tryz.func47, Tryz.ntmps47
    go_wp2
    go_ret
    exact ⟨Mt.ret_int HR.out.symm, rfl⟩
  | false =>
    rw [hcl] at c6
    have HCL := Lib.hid hcl
    clear hcl
    go_enter Tryz.func47, Tryz.ntmps47
    go_wp2_with fail
    go_loop [6, 15] (fun x i => ∃ k : Nat, k ≤ bs.length ∧ i = .int .i64 k ∧ Hid (∀ m (hm : m < bs.length), m < k → bs[m].length ≤ 262144)) (fun _ i => bs.length - (intOf i).toNat)
    case atStart => exact ⟨0, Nat.zero_le _, rfl, Lib.hid fun m _ h => by omega⟩
    case round =>
      obtain ⟨k, hk, rfl, HA⟩ := hrel
      by_cases hlt : k < bs.length
      · obtain ⟨b, off, rfl, hb, hcell⟩ := HX.out k hlt
        obtain ⟨L, hL⟩ : ∃ L, bs[k].length = L := ⟨_, rfl⟩
        have HL := Lib.hid hL
        have hz : (Mt.str bs[k]).size = L := by rw [Mt.str_size, hL]
        clear hL
        generalize Mt.str bs[k] = S at *
        by_cases hl : 262144 < L
        · have hd : decide ((262144 : Int) < (L : Int)) = true := decide_eq_true (by omega)
          have hd2 : decide (262144 < L) = true := decide_eq_true hl
          have HB := Lib.hid hl
          clear hl
          go_wp2_with fail
          go_ret
          exact ⟨Mt.ret_int (Mt.ask_long hlt HCL.out (by rw [HL.out]; exact HB.out)).symm, rfl⟩
        · have hd : decide ((262144 : Int) < (L : Int)) = false := decide_eq_false (by omega)
          have hd2 : decide (262144 < L) = false := decide_eq_false hl
          have HB := Lib.hid hl
          clear hl
          go_wp2_with fail
          go_round
          case rel =>
            refine ⟨k + 1, by omega, by go_num, Lib.hid fun m hm h => ?_⟩
            by_cases e : m = k
            · subst e; have := HB.out; have := HL.out; omega
            · exact HA.out m hm (by omega)
          case measure => simp [intOf]; omega
      · obtain rfl : k = bs.length := by omega
        go_wp2_with fail
        go_ret
        exact ⟨Mt.ret_int (Mt.ask_ok HCL.out (fun m hm => HA.out m hm hm)).symm, rfl⟩

theorem Mt.needs_append (a b : List (List UInt8)) : Mt.needs (a ++ b) = Mt.needs a + Mt.needs b := by
  induction a with
  | nil => simp [Mt.needs]
  | cons x r ih => simp only [List.cons_append, Mt.needs, ih]; omega
theorem Mt.needs_snoc (bs : List (List UInt8)) (k : Nat) (h : k < bs.length) : Mt.needs (bs.take (k + 1)) = Mt.needs (bs.take k) + Mt.cellsN bs[k].length := by
  rw [List.take_succ_eq_append_getElem h, Mt.needs_append]
  simp [Mt.needs]
theorem Mt.cellsN_le (n : Nat) (h : n ≤ 1048576) : Mt.cellsN n ≤ 9534 := by unfold Mt.cellsN; omega
theorem Mt.needs_le (bs : List (List UInt8)) (h : ∀ b ∈ bs, b.length ≤ 1048576) : ∀ k, Mt.needs (bs.take k) ≤ 9534 * k := by
  intro k
  induction k with
  | zero => simp [Mt.needs]
  | succ k ih =>
    by_cases hk : k < bs.length
    · rw [Mt.needs_snoc bs k hk]
      have := Mt.cellsN_le _ (h _ (List.getElem_mem hk))
      omega
    · rw [List.take_of_length_le (by omega)] at ih ⊢
      omega
set_option maxRecDepth 100000 in
theorem holds_any (h : JD w J B bl bm j d) {v : Value} {bs : List (List UInt8)} (hv : IsTs w v bs) (hn : bs.length ≤ 8796093022208) (hb : ∀ b ∈ bs, b.length ≤ 1048576) :
    Calls Tryz.prog 67 #[.pointer (some ⟨J, 0, none⟩), v] w fun e w' => e = .returned (.bool (j.holds d bs)) ∧ Below w.heap.size w w' := by
  have hc := h.jn.cells.1
  have HRO := Lib.hid (room_any h.dk)
  have HLE := Lib.hid (left_any h)
  have HR := Lib.hid (show j.holds d bs = (decide (2 ≤ d.room) && decide (Mt.needs bs ≤ j.left d)) from rfl)
  have hRl : d.room ≤ 8192 := Nat.le_trans h.dk.ok.room h.dk.ok.most
  have hLl : j.left d ≤ 16384 := by unfold Mt.Jn.left; have := hsize_le h; omega
  clear h
  obtain ⟨a, cap, rfl, HX⟩ := hv.open
  clear hv
  have HNL := Lib.hid (Mt.needs_le bs hb)
  have HCL := Lib.hid (fun k (hk : k < bs.length) (u : World) => cells_any bs[k].length u (by have := hb _ (List.getElem_mem hk); omega))
  have HCS := Lib.hid (fun k (hk : k < bs.length) => Mt.cellsN_le bs[k].length (hb _ (List.getElem_mem hk)))
  clear hb
  generalize j.holds d bs = r at HR ⊢
  generalize d.room = R at *
  generalize j.left d = L at *
  go_enter Tryz.func67, Tryz.ntmps67
  go_wp2_with fail
  go_loop [5, 7, 10] (fun s x i => ∃ k : Nat, k ≤ bs.length ∧ i = .int .i64 k ∧ s = .int .i64 (Mt.needs (bs.take k))) (fun _ _ i => bs.length - (intOf i).toNat)
  case atStart => exact ⟨0, Nat.zero_le _, rfl, rfl⟩
  case round =>
    obtain ⟨k, hk, rfl, rfl⟩ := hrel
    by_cases hlt : k < bs.length
    · obtain ⟨b, off, rfl, hb, hcell⟩ := HX.out k hlt
      have hnl := HNL.out k
      have hcs := HCS.out k hlt
      have HSN := Lib.hid (Mt.needs_snoc bs k hlt)
      have HC := Lib.hid (HCL.out k hlt)
      have hz : (Mt.str bs[k]).size = bs[k].length := Mt.str_size _
      generalize Mt.str bs[k] = S at *
      generalize bs[k].length = l at *
      generalize Mt.needs (bs.take k) = s at *
      go_wp2_with fail
      refine (HC.out _).mono ?_
      rintro e w1 ⟨rfl, rfl⟩
      generalize Mt.cellsN l = c at *
      go_wp2_with fail
      go_round
      case rel => exact ⟨k + 1, by omega, by go_num, by rw [HSN.out]; go_num⟩
      case measure => simp [intOf]; omega
    · obtain rfl : k = bs.length := by omega
      have hnl := HNL.out bs.length
      have HT := Lib.hid (show Mt.needs (bs.take bs.length) = Mt.needs bs by rw [List.take_length])
      generalize Mt.needs (bs.take bs.length) = s at *
      by_cases h2 : 2 ≤ R
      · have hd : decide ((2 : Int) ≤ (R : Int)) = true := decide_eq_true (by omega)
        have hd2 : decide (2 ≤ R) = true := decide_eq_true h2
        have HD := Lib.hid hd2
        clear h2
        go_wp2_with fail
        refine (HRO.out).mono ?_
        rintro e w1 ⟨rfl, rfl⟩
        go_wp2_with fail
        refine (HLE.out).mono ?_
        rintro e w1 ⟨rfl, hb⟩
        have HB := Lib.hid hb
        clear hb
        go_wp2_with fail
        go_ret
        exact ⟨Mt.ret_bool (by rw [HR.out, HD.out, ← HT.out, Bool.eq_iff_iff]; simp), HB.out⟩
      · have hd : decide ((2 : Int) ≤ (R : Int)) = false := decide_eq_false (by omega)
        have hd2 : decide (2 ≤ R) = false := decide_eq_false h2
        have HD := Lib.hid hd2
        clear h2
        go_wp2_with fail
        refine (HRO.out).mono ?_
        rintro e w1 ⟨rfl, rfl⟩
        go_wp2_with fail
        go_ret
        exact ⟨Mt.ret_bool (by rw [HR.out, HD.out]; rfl), Below.refl _ _⟩
end
end Go.Proofs.YtnioagojiipjlaaGreat

/-
  A journal whose memory is kept, or written; what become comes to; sectors written one behind the other.
-/
namespace Go.Proofs.YtnioagojiipjlaaGreat
open Go.RowKit

theorem Mt.lose_len (d : Mt.Dk) (a : Nat) (b c : Int) : (d.lose a b c).lasts.length = d.lasts.length := Mt.loseK_length ..
theorem Mt.count_len (d : Mt.Dk) : d.count.1.lasts.length = d.lasts.length := by
  unfold Mt.Dk.count
  split
  · rfl
  · split
    · exact Mt.lose_len _ _ _ _
    · rfl
theorem Mt.write_len (d : Mt.Dk) (i : Int) (s : List UInt8) : (d.write i s).1.lasts.length = d.lasts.length := by
  unfold Mt.Dk.write
  split
  · split
    · split
      · exact Mt.count_len _
      · rfl
    · rfl
  · rfl
theorem Mt.flush_len (d : Mt.Dk) (h : d.Ok) : d.flush.1.lasts.length = d.lasts.length := by
  unfold Mt.Dk.flush
  split
  · rfl
  · split
    · exact (Mt.over_length _ _ h.count.len).trans (Mt.count_len d)
    · exact Mt.count_len _

/-! ### sectors, one behind the other -/
theorem Mt.wrS_len : ∀ (l : List (List UInt8)) (d : Mt.Dk) (a : Nat), (Mt.wrS d a l).1.lasts.length = d.lasts.length
  | [], _, _ => rfl
  | s :: r, d, a => by
    unfold Mt.wrS
    split
    · rw [Mt.wrS_len r, Mt.write_len]
    · exact Mt.write_len _ _ _
theorem Mt.wrS_snoc : ∀ (l : List (List UInt8)) (s : List UInt8) (d : Mt.Dk) (a : Nat), (Mt.wrS d a l).2 = 0 → Mt.wrS d a (l ++ [s]) = (Mt.wrS d a l).1.write ((a + l.length : Nat) : Int) s
  | [], s, d, a, _ => by
    simp only [List.nil_append, Mt.wrS, List.length_nil, Nat.add_zero]
    split
    · rename_i h; rw [← h]
    · rfl
  | x :: r, s, d, a, h => by
    simp only [List.cons_append, Mt.wrS] at h ⊢
    split at h
    · rename_i hx
      rw [if_pos hx, if_pos hx, Mt.wrS_snoc r s _ _ h, List.length_cons, show a + 1 + r.length = a + (r.length + 1) by omega]
    · rename_i hx; exact absurd h hx
theorem Mt.wrS_stop : ∀ (l m : List (List UInt8)) (d : Mt.Dk) (a : Nat), (Mt.wrS d a l).2 ≠ 0 → Mt.wrS d a (l ++ m) = Mt.wrS d a l
  | [], m, d, a, h => absurd rfl h
  | x :: r, m, d, a, h => by
    simp only [List.cons_append, Mt.wrS] at h ⊢
    split at h
    · rename_i hx; rw [if_pos hx, if_pos hx, Mt.wrS_stop r m _ _ h]
    · rename_i hx; rw [if_neg hx, if_neg hx]
theorem Mt.wrS_succ (l : List (List UInt8)) (d : Mt.Dk) (a k : Nat) (hk : k < l.length) (h : (Mt.wrS d a (l.take k)).2 = 0) : Mt.wrS d a (l.take (k + 1)) = (Mt.wrS d a (l.take k)).1.write ((a + k : Nat) : Int) l[k] := by
  rw [List.take_succ_eq_append_getElem hk, Mt.wrS_snoc _ _ _ _ h, List.length_take, Nat.min_eq_left (by omega)]
theorem Mt.wrS_end (l : List (List UInt8)) (d : Mt.Dk) (a k : Nat) (h : (Mt.wrS d a (l.take k)).2 ≠ 0) : Mt.wrS d a l = Mt.wrS d a (l.take k) := by
  have e := Mt.wrS_stop (l.take k) (l.drop k) d a h
  rwa [List.take_append_drop] at e

section
variable {w u : World} {J B bl bm : Nat} {j : Mt.Jn} {d : Mt.Dk}
theorem JD.lt (h : JD w J B bl bm j d) : J < w.heap.size ∧ B < w.heap.size ∧ bl < w.heap.size ∧ bm < w.heap.size := ⟨lt_of_block h.jn, h.dk.ltB, h.dk.ltL, h.dk.ltM⟩
theorem JD.kept (h : JD w J B bl bm j d) (h0 : u.heap[J]? = w.heap[J]?) (h1 : u.heap[B]? = w.heap[B]?) (h2 : u.heap[bl]? = w.heap[bl]?) (h3 : u.heap[bm]? = w.heap[bm]?) : JD u J B bl bm j d :=
  ⟨h0.trans h.jn, h.dk.kept h1 h2 h3, h.four, h.half, h.head, h.gen, h.used, h.count⟩
theorem JD.only (h : JD w J B bl bm j d) {S : List Nat} (ho : OnlyS S w u) (h0 : J ∉ S) (h1 : B ∉ S) (h2 : bl ∉ S) (h3 : bm ∉ S) : JD u J B bl bm j d :=
  h.kept (ho.block _ h.lt.1 h0) (ho.block _ h.lt.2.1 h1) (ho.block _ h.lt.2.2.1 h2) (ho.block _ h.lt.2.2.2 h3)
/-- The disk was written. -/
theorem JD.disk (h : JD w J B bl bm j d) {e : Mt.Dk} (hd : IsDisk u B bl bm e) (ho : OnlyS [B, bl, bm] w u) (hl : e.lasts.length = d.lasts.length) : JD u J B bl bm j e :=
  ⟨(ho.block _ h.lt.1 (by have := h.neJ; simp; omega)).trans h.jn, hd, by rw [hl]; exact h.four, h.half, h.head, h.gen, h.used, h.count⟩
/-- The journal was written. -/
theorem JD.put (h : JD w J B bl bm j d) {i : Mt.Jn} (hj : IsJ u J B i) (ho : OnlyS [J] w u) (h1 : i.half ≤ 1) (h2 : i.head ≤ 1) (h3 : i.gen ≤ 4294967296) (h4 : i.used ≤ 8192) (h5 : i.count ≤ 8192) : JD u J B bl bm i d :=
  ⟨hj, h.dk.only ho (by have := h.neJ; simp; omega) (by have := h.neJ; simp; omega) (by have := h.neJ; simp; omega), h.four, h1, h2, h3, h4, h5⟩
theorem IsJ.set (h : IsJ w J B j) (i : Nat) (v : Value) (n : Mt.Jn) (hc : (jnV B j).setIfInBounds i v = jnV B n) : IsJ (w.setCell ⟨J, i, none⟩ v) J B n := by
  unfold IsJ at h ⊢
  rw [heap_setCell_same w J i _ _ v h, hc]
/-- All of a journal is written. -/
theorem IsJ.whole (h : IsJ w J B j) (n : Mt.Jn) : IsJ (((((((w.setCell ⟨J, 0, none⟩ (.pointer (some ⟨B, 0, none⟩))).setCell ⟨J, 1, none⟩ (.int .u64 (n.gen : Int))).setCell ⟨J, 2, none⟩ (.int .i64 (n.half : Int))).setCell ⟨J, 3, none⟩ (.int .i64 (n.head : Int))).setCell ⟨J, 4, none⟩ (.int .i64 (n.count : Int))).setCell ⟨J, 5, none⟩ (.int .i64 (n.used : Int))).setCell ⟨J, 6, none⟩ (.bool n.closed)) J B n := by
  have h0 := h.set 0 (.pointer (some ⟨B, 0, none⟩)) j rfl
  have h1 := h0.set 1 (.int .u64 (n.gen : Int)) { j with gen := n.gen } rfl
  have h2 := h1.set 2 (.int .i64 (n.half : Int)) { j with gen := n.gen, half := n.half } rfl
  have h3 := h2.set 3 (.int .i64 (n.head : Int)) { j with gen := n.gen, half := n.half, head := n.head } rfl
  have h4 := h3.set 4 (.int .i64 (n.count : Int)) { j with gen := n.gen, half := n.half, head := n.head, count := n.count } rfl
  have h5 := h4.set 5 (.int .i64 (n.used : Int)) { j with gen := n.gen, half := n.half, head := n.head, count := n.count, used := n.used } rfl
  exact h5.set 6 (.bool n.closed) n rfl
theorem only_jn (w : World) (J : Nat) (a b c d e f g : Value) : OnlyS [J] w (((((((w.setCell ⟨J, 0, none⟩ a).setCell ⟨J, 1, none⟩ b).setCell ⟨J, 2, none⟩ c).setCell ⟨J, 3, none⟩ d).setCell ⟨J, 4, none⟩ e).setCell ⟨J, 5, none⟩ f).setCell ⟨J, 6, none⟩ g) :=
  (((((((OnlyS.refl _ _).setCell (by simp) _).setCell (by simp) _).setCell (by simp) _).setCell (by simp) _).setCell (by simp) _).setCell (by simp) _).setCell (by simp) _
theorem box7_of {w : World} {b : Nat} {x y z u v s t : Value} {T : TypeId} {fr : Nat × Nat} (h : w.heap[b]? = some (.cells #[x, y, z, u, v, s, t] T fr)) : w.cell? ⟨b, 0, none⟩ = some x ∧ w.cell? ⟨b, 1, none⟩ = some y ∧ w.cell? ⟨b, 2, none⟩ = some z ∧ w.cell? ⟨b, 3, none⟩ = some u ∧ w.cell? ⟨b, 4, none⟩ = some v ∧ w.cell? ⟨b, 5, none⟩ = some s ∧ w.cell? ⟨b, 6, none⟩ = some t := by
  simp [World.cell?, h]

set_option maxRecDepth 100000 in
theorem become_any (h : IsJ w J B j) (n : Mt.Jn) (x : Int) : Calls Tryz.prog 58 #[.pointer (some ⟨J, 0, none⟩), .agg (jnV B n), .int .i64 x] w fun e w' => e = .returned (.int .i64 (j.become n x).2) ∧ IsJ w' J B (j.become n x).1 ∧ OnlyS [J] w w' := by
  have hw := (Below.refl w.heap.size w).alloc (Nat.le_refl _) (.cells (jnV B n) 94)
  have hj := h.below hw
  have HJ := Lib.hid hj
  obtain ⟨c0, c1, c2, c3, c4, c5, c6⟩ := hj.cells
  have f0 := hj.frozen 0
  have f1 := hj.frozen 1
  have f2 := hj.frozen 2
  have f3 := hj.frozen 3
  have f4 := hj.frozen 4
  have f5 := hj.frozen 5
  have f6 := hj.frozen 6
  have HO := Lib.hid (Below.onlyS (S := [J]) hw (Nat.le_refl _))
  have hx := heap_alloc_new w (.cells (jnV B n) 94)
  obtain ⟨k0, k1, k2, k3, k4, k5, k6⟩ := box7_of hx
  have HNE : Hid (J ≠ w.heap.size) := Lib.hid (by have := lt_of_block h; omega)
  clear hw hj hx h
  unfold jnV at *
  by_cases hx : x = 0
  · subst hx
    have HR := Lib.hid (show j.become n 0 = (n, 0) from rfl)
    go_enter Tryz.func58, Tryz.ntmps58
    go_wp2_with fail
    go_ret
    refine ⟨Mt.ret_int (by rw [HR.out]), ?_, ?_⟩
    · rw [HR.out]; exact HJ.out.whole n
    · exact HO.out.trans (only_jn _ _ _ _ _ _ _ _ _)
  · have hd : (x == 0) = false := by simpa using hx
    have HR := Lib.hid (show j.become n x = ({ j with closed := true }, x) by unfold Mt.Jn.become; rw [if_neg hx])
    have HJ' : Hid (IsJ ((w.alloc (.cells (jnV B n) 94)).setCell ⟨J, 6, none⟩ (.bool true)) J B { j with closed := true }) := Lib.hid (HJ.out.set 6 (.bool true) { j with closed := true } rfl)
    clear hx
    go_enter Tryz.func58, Tryz.ntmps58
    go_wp2_with fail
    go_ret
    refine ⟨Mt.ret_int (by rw [HR.out]), ?_, ?_⟩
    · rw [HR.out]; exact HJ'.out
    · exact HO.out.setCell (by simp) _
end
end Go.Proofs.YtnioagojiipjlaaGreat
