/-
  How a journal lies in memory; readCell; what the journal's calls that only look come to: size, first, Left, Len, Gen.
-/
import Derived.Test.YtmahkgkhnpffeaaJrG
import Derived.Test.YtmahkgkhnpffeaaDkH
namespace Go.Proofs.Ytmahkgkhnpffeaa
open Go.RowKit

/-- A sector read as a cell. -/
theorem readCell_any (s : ByteArray) (w : World) : Calls Try.prog 35 #[.string s] w fun e w' => e = .returned (.agg (clV (Mt.rdCell s.data.toList))) ∧ Below w.heap.size w w' := by
  by_cases h : s.size = 128 ∧ s.data.toList.getD 4 0 = 67
  · obtain ⟨h1, h2⟩ := h
    have hl : s.data.toList.length = 128 := h1
    by_cases hn : Mt.gn s.data.toList 17 1 ≤ 110
    · have hcmp : ∀ L : List UInt8, (Mt.str L).toList = s.toList ↔ L = s.data.toList := fun L => by rw [ByteArray.toList_eq, ByteArray.toList_eq]; rfl
      have H := fun z hz => rcell_yes s w h1 h2 _ _ _ _ _ _ rfl rfl rfl rfl rfl rfl hn z hz
      by_cases hc : (Mt.cl0 s.data.toList).sound = true ∧ (Mt.cl0 s.data.toList).sector = s.data.toList
      · have e : Mt.rdCell s.data.toList = Mt.cl0 s.data.toList := by unfold Mt.rdCell; rw [if_pos ⟨hl, h2, hn, hc.1, hc.2⟩]
        rw [e]
        exact H false (.inl ⟨rfl, hc.1, (hcmp _).2 hc.2⟩)
      · have e : Mt.rdCell s.data.toList = Mt.Cl.zero := by
          unfold Mt.rdCell
          rw [if_neg]
          rintro ⟨_, _, _, a, b⟩
          exact hc ⟨a, b⟩
        rw [e]
        refine H true (.inr ⟨rfl, ?_⟩)
        cases hs : (Mt.cl0 s.data.toList).sound with
        | false => exact .inl hs
        | true => exact .inr ⟨hs, fun e => hc ⟨hs, (hcmp _).1 e⟩⟩
    · have e : Mt.rdCell s.data.toList = Mt.Cl.zero := by unfold Mt.rdCell; rw [if_neg (fun hc => hn hc.2.2.1)]
      rw [e]
      exact rcell_long s w h1 h2 _ rfl (by omega)
  · have e : Mt.rdCell s.data.toList = Mt.Cl.zero := by unfold Mt.rdCell; rw [if_neg (fun hc => h ⟨hc.1, hc.2.1⟩)]
    rw [e]
    exact rcell_no s w h

/-- A journal's cells. -/
def jnV (B : Nat) (j : Mt.Jn) : Array Value := #[.pointer (some ⟨B, 0, none⟩), .int .u64 (j.gen : Int), .int .i64 (j.half : Int), .int .i64 (j.head : Int), .int .i64 (j.count : Int), .int .i64 (j.used : Int), .bool j.closed]
def IsJ (w : World) (J B : Nat) (j : Mt.Jn) : Prop := w.heap[J]? = some (.cells (jnV B j) 55 (0, 0))
theorem Try.szJn : (Try.prog.info? 55).map (·.size) = some 7 := by kernel_rfl
/-- A journal and its disk. -/
structure JD (w : World) (J B bl bm : Nat) (j : Mt.Jn) (d : Mt.Dk) : Prop where
  jn : IsJ w J B j
  dk : IsDisk w B bl bm d
  four : 4 ≤ d.lasts.length
  half : j.half ≤ 1
  head : j.head ≤ 1
  gen : j.gen ≤ 4294967296
  used : j.used ≤ 8192
  count : j.count ≤ 8192
section
variable {w u : World} {J B bl bm : Nat} {j : Mt.Jn} {d : Mt.Dk}
theorem IsJ.cells (h : IsJ w J B j) : w.cell? ⟨J, 0, none⟩ = some (.pointer (some ⟨B, 0, none⟩)) ∧ w.cell? ⟨J, 1, none⟩ = some (.int .u64 (j.gen : Int)) ∧ w.cell? ⟨J, 2, none⟩ = some (.int .i64 (j.half : Int)) ∧ w.cell? ⟨J, 3, none⟩ = some (.int .i64 (j.head : Int)) ∧ w.cell? ⟨J, 4, none⟩ = some (.int .i64 (j.count : Int)) ∧ w.cell? ⟨J, 5, none⟩ = some (.int .i64 (j.used : Int)) ∧ w.cell? ⟨J, 6, none⟩ = some (.bool j.closed) := by
  unfold IsJ jnV at h
  simp [World.cell?, h]
theorem IsJ.frozen (h : IsJ w J B j) (i : Nat) : w.frozen? ⟨J, i, none⟩ = false := frozen_of_row _ _ _ _ _ h
theorem IsJ.below (h : IsJ w J B j) (hb : Below w.heap.size w u) : IsJ u J B j := (hb.block _ (lt_of_block h)).trans h
theorem JD.below (h : JD w J B bl bm j d) (hb : Below w.heap.size w u) : JD u J B bl bm j d := ⟨h.jn.below hb, h.dk.below hb, h.four, h.half, h.head, h.gen, h.used, h.count⟩
theorem JD.neJ (h : JD w J B bl bm j d) : J ≠ B ∧ J ≠ bl ∧ J ≠ bm := by
  have h1 := h.jn
  refine ⟨?_, ?_, ?_⟩
  · rintro rfl
    have h2 := h.dk.row
    unfold IsJ at h1
    rw [h1] at h2
    simp [jnV, dkCells] at h2
  · rintro rfl
    have h2 := h.dk.secs
    unfold IsJ at h1
    rw [h1] at h2
    simp at h2
  · rintro rfl
    obtain ⟨D, hD, _⟩ := h.dk.waits
    exact ownsMap_ne hD h1 rfl
theorem hsize_le (h : JD w J B bl bm j d) : Mt.hsize d.lasts.length ≤ 4095 := by have := h.dk.ok.most; unfold Mt.hsize; omega

theorem size_any (h : JD w J B bl bm j d) : Calls Try.prog 29 #[.pointer (some ⟨J, 0, none⟩)] w fun e w' => e = .returned (.int .i64 (Mt.hsize d.lasts.length : Int)) ∧ w = w' := by
  have hc := h.jn.cells.1
  have HS := Lib.hid (sectors_any h.dk)
  have hn := h.dk.ok.most
  have h4 := h.four
  have HR := Lib.hid (show (Mt.hsize d.lasts.length : Int) = (((d.lasts.length - 2) / 2 : Nat) : Int) from rfl)
  generalize (Mt.hsize d.lasts.length : Int) = r at HR ⊢
  generalize d.lasts.length = n at *
  clear h
  go_enter Try.func29, Try.ntmps29
  go_wp2_with fail
  refine (HS.out).mono ?_
  rintro e w1 ⟨rfl, rfl⟩
  go_wp2_with fail
  go_ret
  exact ⟨Mt.ret_int (by rw [HR.out]; omega), rfl⟩
theorem first_any (h : JD w J B bl bm j d) : Calls Try.prog 28 #[.pointer (some ⟨J, 0, none⟩)] w fun e w' => e = .returned (.int .i64 (j.first d.lasts.length : Int)) ∧ Below w.heap.size w w' := by
  obtain ⟨z, hz⟩ : ∃ z, Mt.hsize d.lasts.length = z := ⟨_, rfl⟩
  have hc := h.jn.cells.2.2.1
  have HS : Hid (∀ u, Below w.heap.size w u → Calls Try.prog 29 #[.pointer (some ⟨J, 0, none⟩)] u fun e w' => e = .returned (.int .i64 (z : Int)) ∧ u = w') := Lib.hid (fun u hb => by rw [← hz]; exact size_any (h.below hb))
  have HC := Lib.hid (fun u (hb : Below w.heap.size w u) => (h.below hb).jn.cells.2.2.1)
  have hzl : z ≤ 4095 := by rw [← hz]; exact hsize_le h
  have hh := h.half
  have HR := Lib.hid (show (j.first d.lasts.length : Int) = ((2 + j.half * z : Nat) : Int) by rw [← hz]; rfl)
  generalize (j.first d.lasts.length : Int) = r at HR ⊢
  generalize j.half = k at *
  have hk : k = 0 ∨ k = 1 := by omega
  have h1 : IntKind.i64.wrap ((k : Int) * (z : Int)) = (k : Int) * (z : Int) := IntWalk.i64_in _ (by rcases hk with rfl | rfl <;> omega)
  have h2 : IntKind.i64.wrap (2 + (k : Int) * (z : Int)) = 2 + (k : Int) * (z : Int) := IntWalk.i64_in _ (by rcases hk with rfl | rfl <;> omega)
  have HK := Lib.hid ((Below.refl w.heap.size w).drew)
  clear h hz hh
  go_enter Try.func28, Try.ntmps28
  go_upto_region 1 with fail
  go_region_held3 (fun w' => w'.cell? ⟨J, 2, none⟩ = some (.int .i64 (k : Int)))
    (first
      | go_keep
      | exact qq)
    (first
      | (go_at_call 29; (with_reducible refine (HS.out _ HK.out).mono ?_); rintro e w2 ⟨rfl, rfl⟩))
  all_goals
    go_wp2_with fail
    go_ret
    exact ⟨Mt.ret_int (by rw [HR.out]; simp), HK.out⟩
end
end Go.Proofs.Ytmahkgkhnpffeaa
