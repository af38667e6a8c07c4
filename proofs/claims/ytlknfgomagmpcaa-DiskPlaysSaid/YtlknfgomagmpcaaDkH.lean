/-
  The chapter's examples of disks: they are met.
-/
import Derived.Test.YtlknfgomagmpcaaDkG
namespace Go.Proofs.Ytlknfgomagmpcaa
open Go.RowKit Go.Maps

def Mt.sx : List UInt8 := Mt.sec1 [120, 120, 120, 120, 120, 120, 120]
def Mt.sx5 : List UInt8 := Mt.sec1 [120, 120, 120, 120, 120]
def Mt.sy : List UInt8 := Mt.sec1 [121]
def Mt.d0 : Mt.Dk := Mt.Dk.new 4
def Mt.d1 : Mt.Dk := (Mt.d0.write 1 Mt.sx).1
def Mt.d2 : Mt.Dk := (Mt.d1.write 3 Mt.sy).1
theorem Mt.w1 : (Mt.d0.write 1 Mt.sx).2 = 0 := by decide +kernel
theorem Mt.w2 : (Mt.d1.write 3 Mt.sy).2 = 0 := by decide +kernel
def Mt.ca : Mt.Dk := Mt.d2.crash 2 (-1) 0
def Mt.cb : Mt.Dk := Mt.d2.crash 0 0 5
theorem Mt.ra1 : Mt.ca.read 1 = (Mt.sec1 [], 0) := by decide +kernel
theorem Mt.ra3 : Mt.ca.read 3 = (Mt.sy, 0) := by decide +kernel
theorem Mt.rb1 : Mt.cb.read 1 = (Mt.sx5, 0) := by decide +kernel
theorem Mt.la : Mt.ca.lasts.length = 4 := by decide +kernel

theorem notIn3 {x a b c : Nat} (h1 : x ≠ a) (h2 : x ≠ b) (h3 : x ≠ c) : x ∉ [a, b, c] := by simp; exact ⟨h1, h2, h3⟩

/-- Two disks that lie apart. -/
structure Two (w : World) (A a1 a2 B b1 b2 : Nat) (x y : Mt.Dk) : Prop where
  one : IsDisk w A a1 a2 x
  two : IsDisk w B b1 b2 y
  apart : ∀ k ∈ [A, a1, a2], k ∉ [B, b1, b2]
theorem Two.first {w u : World} {A a1 a2 B b1 b2 : Nat} {x y x' : Mt.Dk} (h : Two w A a1 a2 B b1 b2 x y) (h1 : IsDisk u A a1 a2 x') (ho : OnlyS [A, a1, a2] w u) : Two u A a1 a2 B b1 b2 x' y :=
  ⟨h1, h.two.only ho (fun hm => h.apart _ hm (by simp)) (fun hm => h.apart _ hm (by simp)) (fun hm => h.apart _ hm (by simp)), h.apart⟩
theorem Two.second {w u : World} {A a1 a2 B b1 b2 : Nat} {x y y' : Mt.Dk} (h : Two w A a1 a2 B b1 b2 x y) (h1 : IsDisk u B b1 b2 y') (ho : OnlyS [B, b1, b2] w u) : Two u A a1 a2 B b1 b2 x y' :=
  ⟨h.one.only ho (h.apart _ (by simp)) (h.apart _ (by simp)) (h.apart _ (by simp)), h1, h.apart⟩
theorem Two.below {w u : World} {A a1 a2 B b1 b2 : Nat} {x y : Mt.Dk} (h : Two w A a1 a2 B b1 b2 x y) (hb : Below w.heap.size w u) : Two u A a1 a2 B b1 b2 x y := ⟨h.one.below hb, h.two.below hb, h.apart⟩
theorem OnlyS.up {S : List Nat} {D : Nat} {a b c : World} (h1 : Below D a b) (h2 : OnlyS S b c) (hD : D ≤ a.heap.size) (hS : ∀ k ∈ S, D ≤ k) : Below D a c :=
  h1.trans (h2.toBelow hS (Nat.le_trans hD h1.size))

/-- The states of the two disks behind so many rounds. -/
def Mt.sA (k : Nat) : Mt.Dk := if 1 ≤ k then Mt.d2 else Mt.d0
def Mt.sB (k : Nat) : Mt.Dk := if 2 ≤ k then Mt.d2 else Mt.d0

theorem write1 {u : World} {B bl bm : Nat} (h : IsDisk u B bl bm Mt.d0) : Calls Try.prog 21 #[.pointer (some ⟨B, 0, none⟩), .int .i64 1, .string (Mt.str Mt.sx)] u fun e w' => e = .returned (.int .i64 0) ∧ IsDisk w' B bl bm Mt.d1 ∧ OnlyS [B, bl, bm] u w' :=
  (write_any h 1 (Mt.str Mt.sx)).mono fun e w' hh => ⟨by rw [hh.1, Mt.str_data, Mt.w1], hh.2⟩
theorem write3 {u : World} {B bl bm : Nat} (h : IsDisk u B bl bm Mt.d1) : Calls Try.prog 21 #[.pointer (some ⟨B, 0, none⟩), .int .i64 3, .string (Mt.str Mt.sy)] u fun e w' => e = .returned (.int .i64 0) ∧ IsDisk w' B bl bm Mt.d2 ∧ OnlyS [B, bl, bm] u w' :=
  (write_any h 3 (Mt.str Mt.sy)).mono fun e w' hh => ⟨by rw [hh.1, Mt.str_data, Mt.w2], hh.2⟩
theorem read_of {u : World} {B bl bm : Nat} {d : Mt.Dk} {i : Int} {L : List UInt8} (hr : d.read i = (L, 0)) (h : IsDisk u B bl bm d) : Calls Try.prog 28 #[.pointer (some ⟨B, 0, none⟩), .int .i64 i] u fun e w' => e = .returned (.tuple #[.string (Mt.str L), .int .i64 0]) ∧ Below u.heap.size u w' :=
  (read_any h i).mono fun e w' hh => ⟨by rw [hh.1, hr], hh.2⟩
theorem crashA {u : World} {B bl bm : Nat} (h : IsDisk u B bl bm Mt.d2) : Calls Try.prog 24 #[.pointer (some ⟨B, 0, none⟩), .agg #[.int .u64 2, .int .i64 (-1), .int .i64 0]] u fun e w' => e = .returned (.tuple #[]) ∧ IsDisk w' B bl bm Mt.ca ∧ OnlyS [B, bl, bm] u w' :=
  crash_any h 2 (-1) 0 (by decide) (by decide) (by decide)
theorem crashB {u : World} {B bl bm : Nat} (h : IsDisk u B bl bm Mt.d2) : Calls Try.prog 24 #[.pointer (some ⟨B, 0, none⟩), .agg #[.int .u64 0, .int .i64 0, .int .i64 5]] u fun e w' => e = .returned (.tuple #[]) ∧ IsDisk w' B bl bm Mt.cb ∧ OnlyS [B, bl, bm] u w' :=
  crash_any h 0 0 5 (by decide) (by decide) (by decide)
theorem sec_x (u : World) : Calls Try.prog 22 #[.string ⟨#[120, 120, 120, 120, 120, 120, 120]⟩] u fun e w' => e = .returned (.string (Mt.str Mt.sx)) ∧ Below u.heap.size u w' := sector_short _ (by decide) u
theorem sec_x5 (u : World) : Calls Try.prog 22 #[.string ⟨#[120, 120, 120, 120, 120]⟩] u fun e w' => e = .returned (.string (Mt.str Mt.sx5)) ∧ Below u.heap.size u w' := sector_short _ (by decide) u
theorem sec_y (u : World) : Calls Try.prog 22 #[.string ⟨#[121]⟩] u fun e w' => e = .returned (.string (Mt.str Mt.sy)) ∧ Below u.heap.size u w' := sector_short _ (by decide) u
theorem sec_0 (u : World) : Calls Try.prog 22 #[.string ⟨#[]⟩] u fun e w' => e = .returned (.string (Mt.str (Mt.sec1 []))) ∧ Below u.heap.size u w' := sector_short _ (by decide) u

set_option maxHeartbeats 1000000 in
set_option maxRecDepth 100000 in
theorem awake5_any (w : World) : Calls Try.prog 12 #[] w fun e w' => e = .returned (.bool true) ∧ Below w.heap.size w w' := by
  have HN := Lib.hid (fun u => new_any 4 u)
  go_enter Try.func12, Try.ntmps12
  go_wp2_with fail
  refine (HN.out _).mono ?_
  rintro e w1 ⟨rfl, hd1, hb1⟩
  have HD1 := Lib.hid hd1
  have HB1 := Lib.hid hb1
  have hs1 := hd1.ltB
  clear hd1 hb1
  go_wp2_with fail
  refine (HN.out _).mono ?_
  rintro e w2 ⟨rfl, hd2, hb2⟩
  have HT : Hid (Two w2 (w.heap.size + 2) w.heap.size (w.heap.size + 1) (w1.heap.size + 2) w1.heap.size (w1.heap.size + 1) Mt.d0 Mt.d0) := Lib.hid ⟨HD1.out.below hb2, hd2, fun k hk => by simp at hk ⊢; omega⟩
  have HB2 := Lib.hid (HB1.out.trans (hb2.mono HB1.out.size))
  have hsz2 := hd2.ltB
  have HLE := Lib.hid (show w.heap.size ≤ w1.heap.size from HB1.out.size)
  clear hd2 hb2 HD1 HB1 HN
  obtain ⟨A, hA⟩ : ∃ A, w.heap.size + 2 = A := ⟨_, rfl⟩
  obtain ⟨a2, ha2⟩ : ∃ A, w.heap.size + 1 = A := ⟨_, rfl⟩
  obtain ⟨B, hB⟩ : ∃ A, w1.heap.size + 2 = A := ⟨_, rfl⟩
  obtain ⟨b2, hb2⟩ : ∃ A, w1.heap.size + 1 = A := ⟨_, rfl⟩
  have HX : Hid (∀ k ∈ [A, w.heap.size, a2, B, w1.heap.size, b2], w.heap.size ≤ k) := Lib.hid (fun k hk => by have := HLE.out; simp at hk; omega)
  rw [hA, ha2, hB, hb2] at HT
  rw [hA, hB]
  generalize w1.heap.size = b1 at *
  generalize ha1 : w.heap.size = a1 at *
  have HSZ := Lib.hid (show a1 ≤ w.heap.size from by omega)
  have HSQ := Lib.hid (show w.heap.size ≤ a1 from by omega)
  clear hsz2 hB hb2 hA ha2 hs1 HLE ha1
  have HTA := Lib.hid (fun o => HT.out.below ((Below.refl w2.heap.size w2).alloc (Nat.le_refl _) o))
  have HBA := Lib.hid (fun o => HB2.out.alloc (Nat.le_trans HSZ.out HB2.out.size) o)
  have HW1 := Lib.hid (fun u p q r (h : IsDisk u p q r Mt.d0) => write1 h)
  have HW3 := Lib.hid (fun u p q r (h : IsDisk u p q r Mt.d1) => write3 h)
  have HSX := Lib.hid (fun u => sec_x u)
  have HSY := Lib.hid (fun u => sec_y u)
  have HRA1 := Lib.hid (fun u p q r (h : IsDisk u p q r Mt.ca) => read_of Mt.ra1 h)
  have HRA3 := Lib.hid (fun u p q r (h : IsDisk u p q r Mt.ca) => read_of Mt.ra3 h)
  have HRB1 := Lib.hid (fun u p q r (h : IsDisk u p q r Mt.cb) => read_of Mt.rb1 h)
  have HS0 := Lib.hid (fun u => sec_0 u)
  have HS5 := Lib.hid (fun u => sec_x5 u)
  generalize Mt.str Mt.sx = X at HW1 HSX
  generalize Mt.str Mt.sy = Y at HW3 HSY HRA3
  generalize Mt.str Mt.sx5 = Z at HRB1 HS5
  generalize Mt.str (Mt.sec1 []) = N at HRA1 HS0
  go_wp2_with fail
  have HT3 := Lib.hid (HTA.out (.cells #[.pointer (some ⟨A, 0, none⟩), .pointer (some ⟨B, 0, none⟩)] 23))
  have HB3 := Lib.hid (HBA.out (.cells #[.pointer (some ⟨A, 0, none⟩), .pointer (some ⟨B, 0, none⟩)] 23))
  have hg3 := heap_alloc_new w2 (.cells #[.pointer (some ⟨A, 0, none⟩), .pointer (some ⟨B, 0, none⟩)] 23)
  have HG : Hid (∀ u, OnlyS [A, a1, a2, B, b1, b2] (w2.alloc (.cells #[.pointer (some ⟨A, 0, none⟩), .pointer (some ⟨B, 0, none⟩)] 23)) u → u.heap[w2.heap.size]? = some (.cells #[.pointer (some ⟨A, 0, none⟩), .pointer (some ⟨B, 0, none⟩)] 23 (0, 0))) := Lib.hid (fun u hu => by
    rw [hu.block _ (lt_of_block hg3) (by
      have h1 := HT.out.one.ltB
      have h2 := HT.out.one.ltL
      have h3 := HT.out.one.ltM
      have h4 := HT.out.two.ltB
      have h5 := HT.out.two.ltL
      have h6 := HT.out.two.ltM
      simp; omega)]
    exact hg3)
  clear hg3 HTA HBA HT HB2
  generalize (w2.alloc (.cells #[.pointer (some ⟨A, 0, none⟩), .pointer (some ⟨B, 0, none⟩)] 23)) = w3 at HT3 HB3 HG ⊢
  generalize w2.heap.size = n2 at *
  go_loopw [17] (fun i wr => ∃ k : Nat, k ≤ 2 ∧ i = .int .i64 k ∧ Hid (Two wr A a1 a2 B b1 b2 (Mt.sA k) (Mt.sB k)) ∧ Hid (OnlyS [A, a1, a2, B, b1, b2] w3 wr))
    (fun i _ => 2 - (intOf i).toNat)
  case atStart => exact ⟨0, by omega, rfl, HT3, Lib.hid (OnlyS.refl _ _)⟩
  case round =>
    clear HT3
    obtain ⟨k, hk, rfl, HT, HO⟩ := hrel
    have hrow := HG.out wr HO.out
    match k, hk, HT with
    | 0, _, HT =>
      have hc := cell_of_row wr n2 0 _ _ _ hrow
      clear hrow
      have HT1 : Hid (Two wr A a1 a2 B b1 b2 Mt.d0 Mt.d0) := HT
      clear HT
      go_wp2_with fail
      refine (HSX.out _).mono ?_
      rintro e u1 ⟨rfl, hb⟩
      have HT2 := Lib.hid (HT1.out.below hb)
      have HO2 := Lib.hid (HO.out.then hb)
      clear hb HT1 HO hc
      go_wp2_with fail
      refine (HW1.out _ _ _ _ HT2.out.one).mono ?_
      rintro e u2 ⟨rfl, hd, ho⟩
      have HT3 := Lib.hid (HT2.out.first hd ho)
      have HO3 := Lib.hid (HO2.out.trans (ho.mono (by intro k hk; simp at hk ⊢; omega)))
      clear hd ho HT2 HO2
      go_wp2_with fail
      refine (HSY.out _).mono ?_
      rintro e u3 ⟨rfl, hb⟩
      have HT4 := Lib.hid (HT3.out.below hb)
      have HO4 := Lib.hid (HO3.out.then hb)
      clear hb HT3 HO3
      go_wp2_with fail
      refine (HW3.out _ _ _ _ HT4.out.one).mono ?_
      rintro e u4 ⟨rfl, hd, ho⟩
      have HT5 := Lib.hid (HT4.out.first hd ho)
      have HO5 := Lib.hid (HO4.out.trans (ho.mono (by intro k hk; simp at hk ⊢; omega)))
      clear hd ho HT4 HO4
      go_wp2_with fail
      go_roundw
      case rel => exact ⟨1, by omega, by first | rfl | go_num, HT5, HO5⟩
      case measure => simp [intOf]
    | 1, _, HT =>
      have hc := cell_of_row wr n2 1 _ _ _ hrow
      clear hrow
      have HT1 : Hid (Two wr A a1 a2 B b1 b2 Mt.d2 Mt.d0) := HT
      clear HT
      go_wp2_with fail
      refine (HSX.out _).mono ?_
      rintro e u1 ⟨rfl, hb⟩
      have HT2 := Lib.hid (HT1.out.below hb)
      have HO2 := Lib.hid (HO.out.then hb)
      clear hb HT1 HO hc
      go_wp2_with fail
      refine (HW1.out _ _ _ _ HT2.out.two).mono ?_
      rintro e u2 ⟨rfl, hd, ho⟩
      have HT3 := Lib.hid (HT2.out.second hd ho)
      have HO3 := Lib.hid (HO2.out.trans (ho.mono (by intro k hk; simp at hk ⊢; omega)))
      clear hd ho HT2 HO2
      go_wp2_with fail
      refine (HSY.out _).mono ?_
      rintro e u3 ⟨rfl, hb⟩
      have HT4 := Lib.hid (HT3.out.below hb)
      have HO4 := Lib.hid (HO3.out.then hb)
      clear hb HT3 HO3
      go_wp2_with fail
      refine (HW3.out _ _ _ _ HT4.out.two).mono ?_
      rintro e u4 ⟨rfl, hd, ho⟩
      have HT5 := Lib.hid (HT4.out.second hd ho)
      have HO5 := Lib.hid (HO4.out.trans (ho.mono (by intro k hk; simp at hk ⊢; omega)))
      clear hd ho HT4 HO4
      go_wp2_with fail
      go_roundw
      case rel => exact ⟨2, by omega, by first | rfl | go_num, HT5, HO5⟩
      case measure => simp [intOf]
    | 2, _, HT =>
      have HT1 : Hid (Two wr A a1 a2 B b1 b2 Mt.d2 Mt.d2) := HT
      clear HT hrow
      have HO1 := Lib.hid (OnlyS.up HB3.out HO.out HSZ.out (fun k hk => HX.out k hk))
      clear HO HG HB3
      clear HW1 HW3 HSX
      go_wp2_with fail
      refine (crashA HT1.out.one).mono ?_
      rintro e v1 ⟨rfl, hd, ho⟩
      have HT2 := Lib.hid (HT1.out.first hd ho)
      have HO2 := Lib.hid (OnlyS.up HO1.out ho HSZ.out (fun k hk => HX.out k (by simp at hk ⊢; omega)))
      clear hd ho HT1 HO1
      go_wp2_with fail
      refine (crashB HT2.out.two).mono ?_
      rintro e v2 ⟨rfl, hd, ho⟩
      have HT3 := Lib.hid (HT2.out.second hd ho)
      have HO3 := Lib.hid (OnlyS.up HO2.out ho HSZ.out (fun k hk => HX.out k (by simp at hk ⊢; omega)))
      clear hd ho HT2 HO2
      go_wp2_with fail
      refine (HRA1.out _ _ _ _ HT3.out.one).mono ?_
      rintro e v3 ⟨rfl, hb⟩
      have HT4 := Lib.hid (HT3.out.below hb)
      have HO4 := Lib.hid (HO3.out.trans (hb.mono (Nat.le_trans HSZ.out HO3.out.size)))
      clear hb HT3 HO3
      go_wp2_with fail
      refine (HRA3.out _ _ _ _ HT4.out.one).mono ?_
      rintro e v4 ⟨rfl, hb⟩
      have HT5 := Lib.hid (HT4.out.below hb)
      have HO5 := Lib.hid (HO4.out.trans (hb.mono (Nat.le_trans HSZ.out HO4.out.size)))
      clear hb HT4 HO4
      go_wp2_with fail
      refine (HRB1.out _ _ _ _ HT5.out.two).mono ?_
      rintro e v5 ⟨rfl, hb⟩
      have HT6 := Lib.hid (HT5.out.below hb)
      have HO6 := Lib.hid (HO5.out.trans (hb.mono (Nat.le_trans HSZ.out HO5.out.size)))
      clear hb HT5 HO5
      go_wp2_with fail
      refine (HS0.out _).mono ?_
      rintro e v6 ⟨rfl, hb⟩
      have HT7 := Lib.hid (HT6.out.below hb)
      have HO7 := Lib.hid (HO6.out.trans (hb.mono (Nat.le_trans HSZ.out HO6.out.size)))
      clear hb HT6 HO6
      go_wp2_with fail
      refine (HSY.out _).mono ?_
      rintro e v7 ⟨rfl, hb⟩
      have HT8 := Lib.hid (HT7.out.below hb)
      have HO8 := Lib.hid (HO7.out.trans (hb.mono (Nat.le_trans HSZ.out HO7.out.size)))
      clear hb HT7 HO7
      go_wp2_with fail
      refine (HS5.out _).mono ?_
      rintro e v8 ⟨rfl, hb⟩
      have HT9 := Lib.hid (HT8.out.below hb)
      have HO9 := Lib.hid (HO8.out.trans (hb.mono (Nat.le_trans HSZ.out HO8.out.size)))
      clear hb HT8 HO8
      go_wp2_with fail
      refine (sectors_any HT9.out.one).mono ?_
      rintro e v9 ⟨rfl, rfl⟩
      have HL := Lib.hid Mt.la
      rw [HL.out]
      go_wp2_with fail
      go_ret
      exact ⟨rfl, HO9.out.mono HSQ.out⟩
end Go.Proofs.Ytlknfgomagmpcaa
