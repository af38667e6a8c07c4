/-
  DiskPlays: the walk.
-/
import Derived.Test.YtlknfgomagmpcaaDrL
import Derived.Deep.RegionLaw
namespace Go.Proofs.Ytlknfgomagmpcaa
open Go.RowKit Go.Maps

set_option maxHeartbeats 4000000 in
set_option maxRecDepth 100000 in
theorem plays (s : Int) (a : Option Addr) (n c : Nat) (f : Nat → Ac) (w : World) (hact : n = 0 ∨ ∃ b off, a = some ⟨b, off, none⟩ ∧ IsActs w b off n f) :
    Calls Try.prog 3 #[.int .i64 s, .slice a n c] w fun e w' => e = .returned (.bool true) ∧ Below w.heap.size w w' := by
  obtain ⟨z, hz⟩ : ∃ z, min s 40 = z := ⟨_, rfl⟩
  have HACT := Lib.hid hact
  have HBX := Lib.hid (fun o => (Below.refl w.heap.size w).alloc (Nat.le_refl _) o)
  clear hact
  go_enter Try.func3, Try.ntmps3
  go_wp2_with fail
  refine (new_any z _).mono ?_
  rintro e w2 ⟨rfl, hd, hb⟩
  have HD2 := Lib.hid hd
  have HB2 := Lib.hid hb
  clear hd hb
  go_wp2_with fail
  refine (enew_any z _).mono ?_
  rintro e w3 ⟨g, rfl, g1, g2, g3, g4, g5, hb⟩
  have HBO := Lib.hid (Both.new (base := w.heap.size) HD2.out ⟨by omega, by omega, by omega⟩ HB2.out.size ⟨g1, g2, g3⟩ g4 g5 hb)
  have HB3 := Lib.hid (HB2.out.trans (hb.mono HB2.out.size))
  clear g1 g2 g3 g4 g5 hb HD2 HB2
  go_wp2_with fail
  refine (awake5_any _).mono ?_
  rintro e w4 ⟨rfl, hb⟩
  have HBO4 := Lib.hid (HBO.out.below hb)
  have HB4 := Lib.hid (HB3.out.trans (hb.mono HB3.out.size))
  clear hb HBO HB3
  by_cases hn : 60 < n
  · have hn' : (60 : Int) < (n : Int) := by omega
    go_wp2_with fail
    refine (awake5_any _).mono ?_
    rintro e w5 ⟨rfl, hb⟩
    have HB5 := Lib.hid (HB4.out.trans (hb.mono HB4.out.size))
    clear hb
    go_wp2_with fail
    go_ret
    exact ⟨rfl, HB5.out⟩
  · have hn' : (n : Int) ≤ 60 := by omega
    go_wp2_with fail
    go_loopw [8, 25] (fun _ i wr => ∃ (k : Nat) (d : Mt.Dk), k ≤ n ∧ i = .int .i64 k ∧ Hid (Both w.heap.size wr (w.heap.size + 2) w.heap.size (w.heap.size + 1) g k d) ∧ Hid (Below w.heap.size w wr))
      (fun _ i _ => n - (intOf i).toNat)
    case atStart => exact ⟨0, _, by omega, rfl, HBO4, HB4⟩
    case round =>
      clear HBO4 HB4
      obtain ⟨k, d, hk, rfl, HBK, HB⟩ := hrel
      by_cases hkn : k < n
      · obtain ⟨b, off, rfl, hacts⟩ : ∃ b off, a = some ⟨b, off, none⟩ ∧ IsActs w b off n f := by
          rcases HACT.out with h | h
          · omega
          · exact h
        have HLD := Lib.hid ((hacts.below HB.out).load k hkn)
        obtain ⟨⟨D, I, N, S, K, T, A⟩, hf⟩ : ∃ x, f k = x := ⟨_, rfl⟩
        have hok := (hacts k hkn).1
        rw [hf] at HLD hok
        obtain ⟨hN, hK, hT, hA⟩ := hok
        have HH := Lib.hid (And.intro hN (And.intro hK (And.intro hT hA)))
        clear hf hN hK hT hA hacts
        have hki : (k : Int) < (n : Int) := by omega
        have hk0 : (0 : Int) ≤ (k : Int) := by omega
        have hld : (loadVar 32 ⟨b, off + k * 7, none⟩).run Try.prog wr = .ok (.agg #[.int .i64 D, .int .i64 I, .int .i64 N, .string S, .int .u64 (K : Int), .int .i64 T, .int .i64 A]) wr := HLD.out
        clear HLD
        go_upto_region 8 with (refine wpList_load_run rfl 32 _ rfl _ _ rfl hld ?_)
        have HBA := Lib.hid ((HBK.out.alloc (.cells #[.int .i64 D, .int .i64 I, .int .i64 N, .string S, .int .u64 (K : Int), .int .i64 T, .int .i64 A] 32)).drew)
        have HLA := Lib.hid (((HB.out.alloc HBK.out.size (.cells #[.int .i64 D, .int .i64 I, .int .i64 N, .string S, .int .u64 (K : Int), .int .i64 T, .int .i64 A] 32))).drew)
        have HT := Lib.hid (show k < 1000 by omega)
        clear hld HBK HB
        go_region_law (first
          | (go_simp; go_at_call 13; go_must ((refine (do_any HBA.out HT.out D I N S K T A HH.out.1 HH.out.2.1 HH.out.2.2.1 HH.out.2.2.2).mono ?_; rintro e w5 ⟨rfl, ⟨d', hb⟩, hbl⟩; have HB5 := Lib.hid hb; have HL5 := Lib.hid (HLA.out.trans hbl); obtain ⟨⟨a', c0⟩, c4, _⟩ := hb.two.cells; clear hb hbl)))
          | (go_simp; go_at_call 14; refine (off_any HB5.out.one).mono ?_; rintro e w6 ⟨rfl, rfl⟩)
          | (go_simp; go_at_call 15; refine (room_any HB5.out.one).mono ?_; rintro e w6 ⟨rfl, rfl⟩)
          | (go_simp; go_at_call 16; refine (eroom_any HB5.out.two).mono ?_; rintro e w6 ⟨rfl, rfl⟩)
          | (go_simp; go_at_call 17; refine (sectors_any HB5.out.one).mono ?_; rintro e w6 ⟨rfl, rfl⟩)
          | (go_simp; go_at_call 18; refine (image_any HB5.out.one).mono ?_; rintro e w6 ⟨rfl, hb⟩; have HB6 := Lib.hid (HB5.out.below hb); have HL6 := Lib.hid (HL5.out.trans (hb.mono HL5.out.size)); clear hb)
          | (go_simp; go_at_call 19; refine (eimage_any HB6.out.two).mono ?_; rintro e w7 ⟨rfl, hb⟩; have HB7 := Lib.hid (HB6.out.below hb); have HL7 := Lib.hid (HL6.out.trans (hb.mono HL6.out.size)); clear hb))
        all_goals
          go_wp2_with fail
          go_roundw
          case rel => exact ⟨k + 1, _, by omega, by go_num, HB7, HL7⟩
          case measure => simp [intOf]; omega
      · obtain rfl : k = n := by omega
        go_wp2_with fail
        go_ret
        exact ⟨rfl, HB.out⟩
end Go.Proofs.Ytlknfgomagmpcaa
