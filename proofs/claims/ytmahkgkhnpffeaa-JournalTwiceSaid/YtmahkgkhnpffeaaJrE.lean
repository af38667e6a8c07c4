/-
  A head's bytes; what readHead comes to.
-/
import Derived.Test.YtmahkgkhnpffeaaJrD
namespace Go.Proofs.Ytmahkgkhnpffeaa
open Go.RowKit

/-- A head as a value. -/
def hdV (h : Nat × Nat) : Array Value := #[.int .u64 (h.1 : Int), .int .i64 (h.2 : Int)]
theorem marked_no (s : ByteArray) (m : UInt8) (w : World) (h : ¬ (s.size = 128 ∧ s.data.toList.getD 4 0 = m)) : Calls Try.prog 47 #[.string s, .string ⟨#[m]⟩] w fun e w' => e = .returned (.bool false) ∧ w = w' := by
  by_cases hs : s.size = 128
  · have := marked_any s m w hs
    rwa [decide_eq_false (fun e => h ⟨hs, e⟩)] at this
  · exact marked_short s m w hs
theorem marked_yes (s : ByteArray) (m : UInt8) (w : World) (h : s.size = 128) (h2 : s.data.toList.getD 4 0 = m) : Calls Try.prog 47 #[.string s, .string ⟨#[m]⟩] w fun e w' => e = .returned (.bool true) ∧ w = w' := by
  have := marked_any s m w h
  rwa [decide_eq_true h2] at this
theorem hbox_of {w : World} {b : Nat} {x y : Value} {T : TypeId} {fr : Nat × Nat} (h : w.heap[b]? = some (.cells #[x, y] T fr)) : w.cell? ⟨b, 0, none⟩ = some x ∧ w.cell? ⟨b, 1, none⟩ = some y := by
  simp [World.cell?, h]
theorem alloc2 (w : World) (x y : Value) (T : TypeId) : ∀ u', Below (w.alloc (.cells #[x, y] T)).heap.size (w.alloc (.cells #[x, y] T)) u' → u'.heap[w.heap.size]? = some (.cells #[x, y] T (0, 0)) :=
  fun u' hb => (hb.block _ (by simp)).trans (heap_alloc_new w _)

set_option maxRecDepth 100000 in
set_option maxHeartbeats 1000000 in
theorem hsector_any (g k : Nat) (hg : g < 4294967296) (hk : k < 256) (w : World) : Calls Try.prog 49 #[.agg (hdV (g, k))] w fun e w' => e = .returned (.string (Mt.str (Mt.hdSector g k))) ∧ Below w.heap.size w w' := by
  have HSEAL : Hid (∀ u, Calls Try.prog 52 #[.string (Mt.str ([72] ++ (Mt.bb g 4 ++ Mt.bb k 1)))] u fun e w' => e = .returned (.string (Mt.str (Mt.hdSector g k))) ∧ Below u.heap.size u w') := Lib.hid (fun u => seal_any ([72] ++ (Mt.bb g 4 ++ Mt.bb k 1)) u (by simp [Mt.bb_length]))
  have HFR := Lib.hid (show Mt.str ([72] ++ (Mt.bb g 4 ++ Mt.bb k 1)) = (⟨#[72]⟩ : ByteArray) ++ Mt.str (Mt.bb g 4) ++ Mt.str (Mt.bb k 1) by
    apply ByteArray.ext; apply Array.ext'; simp [Mt.str])
  generalize Mt.str ([72] ++ (Mt.bb g 4 ++ Mt.bb k 1)) = F at *
  generalize Mt.str (Mt.hdSector g k) = R at *
  have HP1 : Hid (∀ u, Calls Try.prog 53 #[.int .u64 (g : Int), .int .i64 4] u fun e w' => e = .returned (.string (Mt.str (Mt.bb g 4))) ∧ Below u.heap.size u w') := Lib.hid (fun u => putb_any g 4 u (by omega) (by omega))
  have HP2 : Hid (∀ u, Calls Try.prog 53 #[.int .u64 (k : Int), .int .i64 1] u fun e w' => e = .returned (.string (Mt.str (Mt.bb k 1))) ∧ Below u.heap.size u w') := Lib.hid (fun u => putb_any k 1 u (by omega) (by omega))
  have w2 := Mt.u64_nat k (by omega)
  have z1 : (Mt.str (Mt.bb g 4)).size = 4 := by rw [Mt.str_size, Mt.bb_length]
  have z2 : (Mt.str (Mt.bb k 1)).size = 1 := by rw [Mt.str_size, Mt.bb_length]
  generalize Mt.str (Mt.bb g 4) = P1 at *
  generalize Mt.str (Mt.bb k 1) = P2 at *
  have z0 : (⟨#[72]⟩ : ByteArray).size = 1 := rfl
  obtain ⟨S1, e1⟩ : ∃ S, (⟨#[72]⟩ : ByteArray) ++ P1 = S := ⟨_, rfl⟩
  have e2 : S1 ++ P2 = F := by rw [HFR.out, ← e1]
  have y1 : S1.size ≤ 124 := by rw [← e1, ByteArray.size_append]; omega
  have t1 : ¬ (9223372036854775807 < 1 + P1.size) := by omega
  have t2 : ¬ (9223372036854775807 < S1.size + P2.size) := by omega
  clear z0 z1 z2 HFR y1 hg hk
  have HA := Lib.hid ((Below.refl w.heap.size w).alloc (Nat.le_refl _) (.cells #[.int .u64 (g : Int), .int .i64 (k : Int)] 61))
  have HC := Lib.hid (fun u (hu : Below (w.alloc (.cells #[.int .u64 (g : Int), .int .i64 (k : Int)] 61)).heap.size (w.alloc (.cells #[.int .u64 (g : Int), .int .i64 (k : Int)] 61)) u) => hbox_of (alloc2 w _ _ _ u hu))
  have HK := Lib.hid ((Below.refl (w.alloc (.cells #[.int .u64 (g : Int), .int .i64 (k : Int)] 61)).heap.size (w.alloc (.cells #[.int .u64 (g : Int), .int .i64 (k : Int)] 61))).drew)
  obtain ⟨c0, c1⟩ := HC.out _ (Below.refl _ _)
  unfold hdV
  simp only
  go_enter Try.func49, Try.ntmps49
  go_upto_region 1 with fail
  go_region_held3 (fun w' => w'.cell? ⟨w.heap.size, 0, none⟩ = some (.int .u64 (g : Int)) ∧ w'.cell? ⟨w.heap.size, 1, none⟩ = some (.int .i64 (k : Int)))
    (first
      | go_keep
      | exact qq)
    (first
      | (go_at_call 53; (with_reducible refine (HP1.out _).mono ?_); rintro e w2 ⟨rfl, hb⟩; have HK := Lib.hid (HK.out.trans (hb.mono HK.out.size)); have qq := HC.out _ HK.out; clear hb)
      | (go_at_call 53; (with_reducible refine (HP2.out _).mono ?_); rintro e w2 ⟨rfl, hb⟩; have HK := Lib.hid (HK.out.trans (hb.mono HK.out.size)); have qq := HC.out _ HK.out; clear hb)
      | (go_at_call 52; (with_reducible refine (HSEAL.out _).mono ?_); rintro e w2 ⟨rfl, hb⟩; have HK := Lib.hid (HK.out.trans (hb.mono HK.out.size)); have qq := HC.out _ HK.out; clear hb))
  go_wp2_with fail
  go_ret
  exact ⟨rfl, HA.out.trans (HK.out.mono HA.out.size)⟩
end Go.Proofs.Ytmahkgkhnpffeaa
