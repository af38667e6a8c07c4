/-
  The chapter's examples of disks: they are met.
-/
import Derived.Test.YtmahkgkhnpffeaaDkG
namespace Go.Proofs.Ytmahkgkhnpffeaa
open Go.RowKit Go.Maps

def Mt.sx : List UInt8 := Mt.sec1 [120, 120, 120, 120, 120, 120, 120]
def Mt.sx5 : List UInt8 := Mt.sec1 [120, 120, 120, 120, 120]
def Mt.sy : List UInt8 := Mt.sec1 [121]
def Mt.d0 : Mt.Dk := Mt.Dk.new 4
def Mt.d1 : Mt.Dk := (Mt.d0.write 1 Mt.sx).1
def Mt.d2 : Mt.Dk := (Mt.d1.write 3 Mt.sy).1
theorem Mt.w1 : (Mt.d0.write 1 Mt.sx).2 = 0 := by decide +kernel
theorem Mt.w2 : (Mt.d1.write 3 Mt.sy).2 = 0 := by decide +kernel
def Mt.ca : Mt.Dk := Mt.d2.crash 2 (-1) 0
def Mt.cb : Mt.Dk := Mt.d2.crash 0 0 5
theorem Mt.ra1 : Mt.ca.read 1 = (Mt.sec1 [], 0) := by decide +kernel
theorem Mt.ra3 : Mt.ca.read 3 = (Mt.sy, 0) := by decide +kernel
theorem Mt.rb1 : Mt.cb.read 1 = (Mt.sx5, 0) := by decide +kernel
theorem Mt.la : Mt.ca.lasts.length = 4 := by decide +kernel

theorem notIn3 {x a b c : Nat} (h1 : x ≠ a) (h2 : x ≠ b) (h3 : x ≠ c) : x ∉ [a, b, c] := by simp; exact ⟨h1, h2, h3⟩

/-- Two disks that lie apart. -/
structure Two (w : World) (A a1 a2 B b1 b2 : Nat) (x y : Mt.Dk) : Prop where
  one : IsDisk w A a1 a2 x
  two : IsDisk w B b1 b2 y
  apart : ∀ k ∈ [A, a1, a2], k ∉ [B, b1, b2]
theorem Two.first {w u : World} {A a1 a2 B b1 b2 : Nat} {x y x' : Mt.Dk} (h : Two w A a1 a2 B b1 b2 x y) (h1 : IsDisk u A a1 a2 x') (ho : OnlyS [A, a1, a2] w u) : Two u A a1 a2 B b1 b2 x' y :=
  ⟨h1, h.two.only ho (fun hm => h.apart _ hm (by simp)) (fun hm => h.apart _ hm (by simp)) (fun hm => h.apart _ hm (by simp)), h.apart⟩
theorem Two.second {w u : World} {A a1 a2 B b1 b2 : Nat} {x y y' : Mt.Dk} (h : Two w A a1 a2 B b1 b2 x y) (h1 : IsDisk u B b1 b2 y') (ho : OnlyS [B, b1, b2] w u) : Two u A a1 a2 B b1 b2 x y' :=
  ⟨h.one.only ho (h.apart _ (by simp)) (h.apart _ (by simp)) (h.apart _ (by simp)), h1, h.apart⟩
theorem Two.below {w u : World} {A a1 a2 B b1 b2 : Nat} {x y : Mt.Dk} (h : Two w A a1 a2 B b1 b2 x y) (hb : Below w.heap.size w u) : Two u A a1 a2 B b1 b2 x y := ⟨h.one.below hb, h.two.below hb, h.apart⟩
theorem OnlyS.up {S : List Nat} {D : Nat} {a b c : World} (h1 : Below D a b) (h2 : OnlyS S b c) (hD : D ≤ a.heap.size) (hS : ∀ k ∈ S, D ≤ k) : Below D a c :=
  h1.trans (h2.toBelow hS (Nat.le_trans hD h1.size))

/-- The states of the two disks behind so many rounds. -/
def Mt.sA (k : Nat) : Mt.Dk := if 1 ≤ k then Mt.d2 else Mt.d0
def Mt.sB (k : Nat) : Mt.Dk := if 2 ≤ k then Mt.d2 else Mt.d0

theorem write1 {u : World} {B bl bm : Nat} (h : IsDisk u B bl bm Mt.d0) : Calls Try.prog 40 #[.pointer (some ⟨B, 0, none⟩), .int .i64 1, .string (Mt.str Mt.sx)] u fun e w' => e = .returned (.int .i64 0) ∧ IsDisk w' B bl bm Mt.d1 ∧ OnlyS [B, bl, bm] u w' :=
  (write_any h 1 (Mt.str Mt.sx)).mono fun e w' hh => ⟨by rw [hh.1, Mt.str_data, Mt.w1], hh.2⟩
theorem write3 {u : World} {B bl bm : Nat} (h : IsDisk u B bl bm Mt.d1) : Calls Try.prog 40 #[.pointer (some ⟨B, 0, none⟩), .int .i64 3, .string (Mt.str Mt.sy)] u fun e w' => e = .returned (.int .i64 0) ∧ IsDisk w' B bl bm Mt.d2 ∧ OnlyS [B, bl, bm] u w' :=
  (write_any h 3 (Mt.str Mt.sy)).mono fun e w' hh => ⟨by rw [hh.1, Mt.str_data, Mt.w2], hh.2⟩
theorem read_of {u : World} {B bl bm : Nat} {d : Mt.Dk} {i : Int} {L : List UInt8} (hr : d.read i = (L, 0)) (h : IsDisk u B bl bm d) : Calls Try.prog 33 #[.pointer (some ⟨B, 0, none⟩), .int .i64 i] u fun e w' => e = .returned (.tuple #[.string (Mt.str L), .int .i64 0]) ∧ Below u.heap.size u w' :=
  (read_any h i).mono fun e w' hh => ⟨by rw [hh.1, hr], hh.2⟩
theorem crashA {u : World} {B bl bm : Nat} (h : IsDisk u B bl bm Mt.d2) : Calls Try.prog 18 #[.pointer (some ⟨B, 0, none⟩), .agg #[.int .u64 2, .int .i64 (-1), .int .i64 0]] u fun e w' => e = .returned (.tuple #[]) ∧ IsDisk w' B bl bm Mt.ca ∧ OnlyS [B, bl, bm] u w' :=
  crash_any h 2 (-1) 0 (by decide) (by decide) (by decide)
theorem crashB {u : World} {B bl bm : Nat} (h : IsDisk u B bl bm Mt.d2) : Calls Try.prog 18 #[.pointer (some ⟨B, 0, none⟩), .agg #[.int .u64 0, .int .i64 0, .int .i64 5]] u fun e w' => e = .returned (.tuple #[]) ∧ IsDisk w' B bl bm Mt.cb ∧ OnlyS [B, bl, bm] u w' :=
  crash_any h 0 0 5 (by decide) (by decide) (by decide)
end Go.Proofs.Ytmahkgkhnpffeaa
