/-
  Some texts of one proof, one behind the other.
-/
import Derived.Deep.AppendLies
import Derived.Deep.RegionHeld3
import Derived.Test.YtnioagojiipjlaaGreatPk13
set_option linter.unusedVariables false
set_option linter.unusedSimpArgs false

/-
  What sector and Blank come to; the chapter's examples of disks: they are met.
-/
namespace Go.Proofs.YtnioagojiipjlaaGreat
open Go.RowKit Go.Maps

theorem conv_zero (w : World) (n : Nat) (hn : n ≤ 1000000) : (convert 73 9 (.slice (some ⟨w.heap.size, 0, none⟩) n n)).run Tryz.prog (w.alloc (.cells (Array.replicate n (.int .u8 0)) 5)) = .ok (.string (Mt.str (List.replicate n 0))) (w.alloc (.cells (Array.replicate n (.int .u8 0)) 5)) := by
  have h := run_convert_bytes_back (P := Tryz.prog) (w.alloc (.cells (Array.replicate n (.int .u8 0)) 5)) 73 9 5 ⟨w.heap.size, 0, none⟩ n (List.replicate n 0) Tryz.underlying73 Tryz.underlying5 Tryz.underlying9 (fun j hj => by
    rw [List.length_replicate] at hj
    rw [add_off, Nat.zero_add, cell_of_row _ _ _ _ _ _ (heap_alloc_new _ _)]
    simp [hj])
  rw [List.length_replicate] at h
  exact h
theorem make_zero (w : World) (n : Nat) (hn : n ≤ 1000000) : (Instr.makeSlice 73 (.int .i64 (n : Int)) (.int .i64 (n : Int))).run Tryz.prog w = .ok (.slice (some ⟨w.heap.size, 0, none⟩) n n) (w.alloc (.cells (Array.replicate n (.int .u8 0)) 5)) := by
  obtain ⟨i, hi, hz, hs, hb⟩ := info_parts Tryz.infoU8
  have h := run_make (P := Tryz.prog) w 73 5 i _ Tryz.underlying73 hi hz .i64 .i64 (n : Int) (n : Int) (by omega) (Int.le_refl _) (by rw [hb]; omega) (by omega)
  rw [Int.toNat_natCast, hs, Nat.mul_one] at h
  have e : madeCells (Value.int .u8 0).cells n = Array.replicate n (.int .u8 0) := made_all _ _ _ 1 rfl (by decide) (fun j hj => by
    obtain rfl : j = 0 := by omega
    rfl)
  rw [e] at h
  exact h
set_option maxRecDepth 100000 in
theorem blank_any (n : Nat) (hn : n ≤ 1000000) (w : World) : Calls Tryz.prog 32 #[.int .i64 (n : Int)] w fun e w' => e = .returned (.string (Mt.str (List.replicate n 0))) ∧ Below w.heap.size w w' := by
  have hm := fun u => make_zero u n hn
  have hc := conv_zero w n hn
  have HB := Lib.hid (fun o => (Below.refl w.heap.size w).alloc (Nat.le_refl _) o)
  obtain ⟨z, hz⟩ : ∃ z : Int, (n : Int) = z := ⟨_, rfl⟩
  rw [hz] at hm ⊢
  clear hz
  generalize Array.replicate n (Value.int .u8 0) = Z at *
  go_enter Tryz.func32, Tryz.ntmps32
  go_wp2
  go_ret
  exact ⟨rfl, HB.out _⟩

end Go.Proofs.YtnioagojiipjlaaGreat

/-
  The chapter's examples of disks: they are met.
-/
namespace Go.Proofs.YtnioagojiipjlaaGreat
open Go.RowKit Go.Maps

def Mt.sx : List UInt8 := Mt.sec1 [120, 120, 120, 120, 120, 120, 120]
def Mt.sx5 : List UInt8 := Mt.sec1 [120, 120, 120, 120, 120]
def Mt.sy : List UInt8 := Mt.sec1 [121]
def Mt.d0 : Mt.Dk := Mt.Dk.new 4
def Mt.d1 : Mt.Dk := (Mt.d0.write 1 Mt.sx).1
def Mt.d2 : Mt.Dk := (Mt.d1.write 3 Mt.sy).1
theorem Mt.w1 : (Mt.d0.write 1 Mt.sx).2 = 0 := by decide +kernel
theorem Mt.w2 : (Mt.d1.write 3 Mt.sy).2 = 0 := by decide +kernel
def Mt.ca : Mt.Dk := Mt.d2.crash 2 (-1) 0
def Mt.cb : Mt.Dk := Mt.d2.crash 0 0 5
theorem Mt.ra1 : Mt.ca.read 1 = (Mt.sec1 [], 0) := by decide +kernel
theorem Mt.ra3 : Mt.ca.read 3 = (Mt.sy, 0) := by decide +kernel
theorem Mt.rb1 : Mt.cb.read 1 = (Mt.sx5, 0) := by decide +kernel
theorem Mt.la : Mt.ca.lasts.length = 4 := by decide +kernel

theorem notIn3 {x a b c : Nat} (h1 : x ≠ a) (h2 : x ≠ b) (h3 : x ≠ c) : x ∉ [a, b, c] := by simp; exact ⟨h1, h2, h3⟩

/-- Two disks that lie apart. -/
structure Two (w : World) (A a1 a2 B b1 b2 : Nat) (x y : Mt.Dk) : Prop where
  one : IsDisk w A a1 a2 x
  two : IsDisk w B b1 b2 y
  apart : ∀ k ∈ [A, a1, a2], k ∉ [B, b1, b2]
theorem Two.first {w u : World} {A a1 a2 B b1 b2 : Nat} {x y x' : Mt.Dk} (h : Two w A a1 a2 B b1 b2 x y) (h1 : IsDisk u A a1 a2 x') (ho : OnlyS [A, a1, a2] w u) : Two u A a1 a2 B b1 b2 x' y :=
  ⟨h1, h.two.only ho (fun hm => h.apart _ hm (by simp)) (fun hm => h.apart _ hm (by simp)) (fun hm => h.apart _ hm (by simp)), h.apart⟩
theorem Two.second {w u : World} {A a1 a2 B b1 b2 : Nat} {x y y' : Mt.Dk} (h : Two w A a1 a2 B b1 b2 x y) (h1 : IsDisk u B b1 b2 y') (ho : OnlyS [B, b1, b2] w u) : Two u A a1 a2 B b1 b2 x y' :=
  ⟨h.one.only ho (h.apart _ (by simp)) (h.apart _ (by simp)) (h.apart _ (by simp)), h1, h.apart⟩
theorem Two.below {w u : World} {A a1 a2 B b1 b2 : Nat} {x y : Mt.Dk} (h : Two w A a1 a2 B b1 b2 x y) (hb : Below w.heap.size w u) : Two u A a1 a2 B b1 b2 x y := ⟨h.one.below hb, h.two.below hb, h.apart⟩
theorem OnlyS.up {S : List Nat} {D : Nat} {a b c : World} (h1 : Below D a b) (h2 : OnlyS S b c) (hD : D ≤ a.heap.size) (hS : ∀ k ∈ S, D ≤ k) : Below D a c :=
  h1.trans (h2.toBelow hS (Nat.le_trans hD h1.size))

/-- The states of the two disks behind so many rounds. -/
def Mt.sA (k : Nat) : Mt.Dk := if 1 ≤ k then Mt.d2 else Mt.d0
def Mt.sB (k : Nat) : Mt.Dk := if 2 ≤ k then Mt.d2 else Mt.d0

theorem write1 {u : World} {B bl bm : Nat} (h : IsDisk u B bl bm Mt.d0) : Calls Tryz.prog 78 #[.pointer (some ⟨B, 0, none⟩), .int .i64 1, .string (Mt.str Mt.sx)] u fun e w' => e = .returned (.int .i64 0) ∧ IsDisk w' B bl bm Mt.d1 ∧ OnlyS [B, bl, bm] u w' :=
  (write_any h 1 (Mt.str Mt.sx)).mono fun e w' hh => ⟨by rw [hh.1, Mt.str_data, Mt.w1], hh.2⟩
theorem write3 {u : World} {B bl bm : Nat} (h : IsDisk u B bl bm Mt.d1) : Calls Tryz.prog 78 #[.pointer (some ⟨B, 0, none⟩), .int .i64 3, .string (Mt.str Mt.sy)] u fun e w' => e = .returned (.int .i64 0) ∧ IsDisk w' B bl bm Mt.d2 ∧ OnlyS [B, bl, bm] u w' :=
  (write_any h 3 (Mt.str Mt.sy)).mono fun e w' hh => ⟨by rw [hh.1, Mt.str_data, Mt.w2], hh.2⟩
theorem read_of {u : World} {B bl bm : Nat} {d : Mt.Dk} {i : Int} {L : List UInt8} (hr : d.read i = (L, 0)) (h : IsDisk u B bl bm d) : Calls Tryz.prog 62 #[.pointer (some ⟨B, 0, none⟩), .int .i64 i] u fun e w' => e = .returned (.tuple #[.string (Mt.str L), .int .i64 0]) ∧ Below u.heap.size u w' :=
  (read_any h i).mono fun e w' hh => ⟨by rw [hh.1, hr], hh.2⟩
theorem crashA {u : World} {B bl bm : Nat} (h : IsDisk u B bl bm Mt.d2) : Calls Tryz.prog 20 #[.pointer (some ⟨B, 0, none⟩), .agg #[.int .u64 2, .int .i64 (-1), .int .i64 0]] u fun e w' => e = .returned (.tuple #[]) ∧ IsDisk w' B bl bm Mt.ca ∧ OnlyS [B, bl, bm] u w' :=
  crash_any h 2 (-1) 0 (by decide) (by decide) (by decide)
theorem crashB {u : World} {B bl bm : Nat} (h : IsDisk u B bl bm Mt.d2) : Calls Tryz.prog 20 #[.pointer (some ⟨B, 0, none⟩), .agg #[.int .u64 0, .int .i64 0, .int .i64 5]] u fun e w' => e = .returned (.tuple #[]) ∧ IsDisk w' B bl bm Mt.cb ∧ OnlyS [B, bl, bm] u w' :=
  crash_any h 0 0 5 (by decide) (by decide) (by decide)
end Go.Proofs.YtnioagojiipjlaaGreat

/-
  What is written to the first sectors of a disk, flushed, written again, and lost: plain facts.
-/
namespace Go.Proofs.YtnioagojiipjlaaGreat.Mt

/-- The first sectors wait. -/
def pre (n : Nat) (X : List (List UInt8)) : List (Option (List UInt8)) := X.map some ++ List.replicate (n - X.length) none
theorem pre_length (n : Nat) (X : List (List UInt8)) (h : X.length ≤ n) : (pre n X).length = n := by
  unfold pre; rw [List.length_append, List.length_map, List.length_replicate]; omega
theorem pre_nil (n : Nat) : pre n [] = noWaits n := by simp [pre, noWaits]
theorem pre_snoc (n : Nat) (X : List (List UInt8)) (b : List UInt8) (h : X.length < n) : (pre n X).set X.length (some b) = pre n (X ++ [b]) := by
  unfold pre
  have e : n - X.length = (n - (X ++ [b]).length) + 1 := by rw [List.length_append]; simp; omega
  rw [e, List.replicate_succ, List.set_append_right _ _ (by simp), List.length_map, Nat.sub_self, List.set_cons_zero]
  simp
theorem pre_get (n : Nat) (X : List (List UInt8)) (i : Nat) (b : List UInt8) : (pre n X)[i]? = some (some b) ↔ X[i]? = some b := by
  unfold pre
  rcases Nat.lt_or_ge i X.length with h | h
  · rw [List.getElem?_append_left (by simpa using h), List.getElem?_map, List.getElem?_eq_getElem h]; simp
  · rw [List.getElem?_append_right (by simpa using h), List.getElem?_eq_none h, List.getElem?_replicate]
    constructor
    · intro h2; split at h2 <;> simp at h2
    · intro h2; cases h2
theorem pre_keys (n : Nat) (X : List (List UInt8)) (h : X.length ≤ n) : wkeys (pre n X) = List.range X.length := by
  refine List.Perm.eq_of_pairwise (le := fun a b => a < b) (fun a b _ _ h1 h2 => by omega) (wkeys_sorted _) List.pairwise_lt_range ((List.perm_ext_iff_of_nodup (wkeys_nodup _) List.nodup_range).2 fun i => ?_)
  rw [mem_wkeys, List.mem_range]
  constructor
  · rintro ⟨b, hb⟩
    have h2 := (pre_get n X i b).1 hb
    rcases Nat.lt_or_ge i X.length with h3 | h3
    · exact h3
    · rw [List.getElem?_eq_none h3] at h2; cases h2
  · intro h2
    exact ⟨X[i], (pre_get n X i _).2 (List.getElem?_eq_getElem h2)⟩
theorem over_pre (L X : List (List UInt8)) (h : X.length ≤ L.length) : over L (pre L.length X) = X ++ L.drop X.length := by
  apply List.ext_getElem
  · rw [over_length _ _ (pre_length _ _ h), List.length_append, List.length_drop]; omega
  · intro i h1 h2
    rw [over_length _ _ (pre_length _ _ h)] at h1
    simp only [over, List.getElem_zipWith]
    rcases Nat.lt_or_ge i X.length with h3 | h3
    · have e : (pre L.length X)[i]'(by rw [pre_length _ _ h]; exact h1) = some X[i] := by simp [pre, List.getElem_append_left, h3]
      rw [e, List.getElem_append_left h3]; rfl
    · have e : (pre L.length X)[i]'(by rw [pre_length _ _ h]; exact h1) = none := by
        unfold pre
        rw [List.getElem_append_right (by simpa using h3)]; simp
      rw [e, List.getElem_append_right h3, List.getElem_drop]
      show L[i] = _
      congr 1; omega
theorem range_pre (keep : Nat) (torn at' : Int) (n : Nat) (X L : List (List UInt8)) (hX : X.length ≤ n) (hL : L.length = n) : ∀ k, k ≤ X.length → ∀ i (hi : i < L.length),
    (loseK keep torn at' (pre n X) 0 (List.range k) L)[i]? = some (if h : i < k ∧ i < X.length then pick keep torn at' i L[i] (X[i]'h.2) else L[i])
  | 0, _, i, hi => by simp [loseK, hi]
  | k + 1, hk, i, hi => by
    have ih := range_pre keep torn at' n X L hX hL k (by omega)
    have hlen := loseK_length keep torn at' (pre n X) (List.range k) 0 L
    have hkn : k < L.length := by omega
    rw [List.range_succ, loseK_append, List.length_range, Nat.zero_add]
    show ((loseK keep torn at' (pre n X) 0 (List.range k) L).set k _)[i]? = _
    rw [List.getElem?_set]
    by_cases hik : k = i
    · subst hik
      have e1 : (loseK keep torn at' (pre n X) 0 (List.range k) L).getD k [] = L[k] := by
        rw [List.getD_eq_getElem?_getD, ih k hkn, dif_neg (by omega)]; rfl
      have e2 : ((pre n X).getD k none).getD [] = X[k] := by
        rw [List.getD_eq_getElem?_getD, (pre_get n X k X[k]).2 (List.getElem?_eq_getElem (by omega))]; rfl
      rw [if_pos rfl, if_pos (by rw [hlen]; exact hkn), e1, e2, dif_pos ⟨by omega, by omega⟩]
    · rw [if_neg hik, ih i hi]
      by_cases h : i < k ∧ i < X.length
      · rw [dif_pos h, dif_pos ⟨by omega, h.2⟩]
      · rw [dif_neg h, dif_neg (by omega)]
/-- What lasts behind a loss, sector by sector. -/
theorem lose_pre (keep : Nat) (torn at' : Int) (X L : List (List UInt8)) (hX : X.length ≤ L.length) (i : Nat) (hi : i < L.length) :
    ∃ b, (loseAll keep torn at' (pre L.length X) L)[i]? = some b ∧ (X.length ≤ i → b = L[i]) ∧ ∀ (h : i < X.length), b = L[i] ∨ b = X[i] ∨ (i : Int) = torn := by
  refine ⟨_, by unfold loseAll; rw [pre_keys _ _ hX]; exact range_pre keep torn at' L.length X L hX rfl X.length (Nat.le_refl _) i hi, fun h => by rw [dif_neg (by omega)], fun h => ?_⟩
  rw [dif_pos ⟨h, h⟩]
  unfold pick
  split
  · exact .inr (.inr (by assumption))
  · split
    · exact .inr (.inl rfl)
    · exact .inl rfl

/-- A text's first hundred bytes, as a sector. -/
def cut100 (s : ByteArray) : ByteArray := s.extract 0 (min s.size 100)
def secOf (s : ByteArray) : List UInt8 := sec1 (cut100 s).data.toList
theorem cut100_size (s : ByteArray) : (cut100 s).size ≤ 100 := by unfold cut100; rw [ByteArray.size_extract]; omega
theorem secOf_length (s : ByteArray) : (secOf s).length = 128 := sec1_length _

/-- A sector of an image. -/
theorem image_cut (L : List (List UInt8)) (h : ∀ j (h : j < L.length), (L[j]).length = 128) (i : Nat) (hi : i < L.length) : (str L.flatten).extract (i * 128) ((i + 1) * 128) = str L[i] := by
  have hb : ∀ a b : ByteArray, a.data.toList = b.data.toList → a = b := fun a b h => by
    cases a; cases b
    simp only at h
    congr 1
    exact Array.toList_inj.1 h
  apply hb
  rw [ByteArray.data_extract, Array.toList_extract, List.extract_eq_take_drop, str_data, str_data]
  have hs := Mt.flatten_split L i hi h
  rw [Nat.mul_comm i 128, hs.2, List.drop_eq_getElem_cons hi, List.flatten_cons, show (i + 1) * 128 - 128 * i = (L[i]).length by rw [h i hi]; omega]
  exact List.take_left' rfl

/-! ### the disk of twenty sectors -/
theorem count0 (d : Dk) (h : d.cut = 0) : d.count = (d, 0) := by unfold Dk.count; rw [if_pos h]
def e0 : Dk := Dk.new 20
def ew (L X : List (List UInt8)) : Dk := { e0 with lasts := L, waits := pre 20 X }
theorem ew0 : e0 = ew (List.replicate 20 blank) [] := by unfold ew; rw [pre_nil]; rfl
theorem ew_write (L X : List (List UInt8)) (hL : L.length = 20) (hX : X.length < 20) (b : List UInt8) (hb : b.length = 128) : (ew L X).write (X.length : Int) b = (ew L (X ++ [b]), 0) := by
  have ha : (ew L X).ask (X.length : Int) = 0 := by
    unfold Dk.ask
    rw [if_neg (by simp [ew, e0, Dk.new]), if_neg]
    simp only [ew]; omega
  unfold Dk.write
  rw [if_pos ha, if_pos hb, if_pos (show (X.length : Int) < ((ew L X).room : Int) by show (X.length : Int) < ((20 : Nat) : Int); omega), Int.toNat_natCast]
  refine (count0 _ rfl).trans ?_
  show (({ ew L X with waits := (pre 20 X).set X.length (some b) } : Dk), (0 : Int)) = _
  rw [pre_snoc 20 X b hX]
  rfl
theorem ew_flush (L X : List (List UInt8)) (hL : L.length = 20) (hX : X.length ≤ 20) : (ew L X).flush = (ew (X ++ L.drop X.length) [], 0) := by
  unfold Dk.flush
  rw [count0 _ (show (ew L X).cut = 0 from rfl), if_neg (by simp [ew, e0, Dk.new]), if_pos rfl]
  have h := over_pre L X (by omega)
  rw [hL] at h
  unfold Dk.flushed
  show (({ ew L X with lasts := over L (pre 20 X), waits := noWaits L.length } : Dk), (0 : Int)) = _
  rw [h, hL, ← pre_nil]
  rfl

end Go.Proofs.YtnioagojiipjlaaGreat.Mt

/-
  How the document's disk lies in memory: a block of ten cells, two rows of texts, a row of what was torn.
-/
namespace Go.Proofs.YtnioagojiipjlaaGreat
open Go.RowKit Go.Maps

theorem Tryz.infoTorn : (Tryz.prog.info? 98).map (fun i => (i.zero, i.size, i.bytes)) = some (some (.agg #[.string ByteArray.empty, .string ByteArray.empty, .string ByteArray.empty]), 3, 48) := by kernel_rfl
theorem Tryz.infoStr : (Tryz.prog.info? 9).map (fun i => (i.zero, i.size, i.bytes)) = some (some (.string ByteArray.empty), 1, 16) := by kernel_rfl

/-- Where the document's disk lies: its block, its two rows; what lies below the row of what was torn. -/
structure Rg where
  R : Nat
  bl : Nat
  bw : Nat
  D : Nat
  cl : Nat
  cw : Nat
  P : Nat → Prop

def wtxt : Option (List UInt8) → ByteArray
  | none => ByteArray.empty
  | some b => Mt.str b
def slc (n b c : Nat) : Value := .slice (if n = 0 then none else some ⟨b, 0, none⟩) n c
theorem slc_pos {n b c : Nat} (h : n ≠ 0) : slc n b c = .slice (some ⟨b, 0, none⟩) n c := by unfold slc; rw [if_neg h]
def rCells (g : Rg) (d : Mt.Dk) (lim : Bool) (most : Nat) (tv : Value) : Array Value :=
  #[slc d.lasts.length g.bl g.cl, slc d.lasts.length g.bw g.cw, .bool lim, .int .i64 (most : Int), .bool d.off, .int .i64 (d.cut : Int), .int .u64 (d.keep : Int), .int .i64 d.torn, .int .i64 d.at', tv]

/-- The row of a list of texts. -/
def txts (w : World) (b : Nat) (n : Nat) (f : Nat → ByteArray) : Prop := ∃ cs, w.heap[b]? = some (.cells cs 9 (0, 0)) ∧ ∀ i, i < n → cs[i]? = some (.string (f i))
def lastT (d : Mt.Dk) (i : Nat) : ByteArray := Mt.str (d.lasts.getD i [])
def waitT (d : Mt.Dk) (i : Nat) : ByteArray := wtxt (d.waits.getD i none)

structure RD (w : World) (g : Rg) (d : Mt.Dk) (lim : Bool) (most : Nat) (tv : Value) (tn : Nat) (tcs : List Value) : Prop where
  ok : d.Ok
  row : w.heap[g.R]? = some (.cells (rCells g d lim most tv) 67 (0, 0))
  lasts : d.lasts.length ≠ 0 → txts w g.bl d.lasts.length (lastT d)
  waits : d.lasts.length ≠ 0 → txts w g.bw d.lasts.length (waitT d)
  tears : w.ownsRow g.D 98 3 tv tn tcs
  ltR : g.R < g.D
  apart : d.lasts.length ≠ 0 → g.bl < g.D ∧ g.bw < g.D ∧ g.bl ≠ g.bw ∧ g.bl ≠ g.R ∧ g.bw ≠ g.R
  size : g.D ≤ w.heap.size
  room : d.room = if lim = true ∧ most < d.lasts.length then most else d.lasts.length
  most : most ≤ 9223372036854775807
  prot : ∀ k, tv.ownBlock = some k → ¬ g.P k
  ltP : ∀ k, g.P k → k < w.heap.size

theorem own_at {w u : World} {base : Nat} {e : TypeId} {size : Nat} {v : Value} {n : Nat} {xs : List Value} (h : w.ownsRow base e size v n xs) (hk : ∀ k, base ≤ k → k < w.heap.size → u.heap[k]? = w.heap[k]?) : u.ownsRow base e size v n xs := by
  refine ⟨h.1, ?_⟩
  rcases h.2 with h | ⟨g, cap, cur, h1, h2, h3, h4⟩
  · exact .inl h
  · exact .inr ⟨g, cap, cur, h1, h2, by rw [hk g h2 (lt_of_block h3)]; exact h3, h4⟩

/-- What a call of the document's disk leaves as it was. -/
structure Fr (g : Rg) (w w' : World) : Prop where
  os : w'.os = w.os
  tape : w'.tape = w.tape
  output : w'.output = w.output
  size : w.heap.size ≤ w'.heap.size
  block : ∀ k, (k < g.D ∨ g.P k) → k < w.heap.size → k ≠ g.R → k ≠ g.bl → k ≠ g.bw → w'.heap[k]? = w.heap[k]?
theorem Fr.refl (g : Rg) (w : World) : Fr g w w := ⟨rfl, rfl, rfl, Nat.le_refl _, fun _ _ _ _ _ _ => rfl⟩
theorem Fr.trans {g : Rg} {a b c : World} (h1 : Fr g a b) (h2 : Fr g b c) : Fr g a c :=
  ⟨h2.os.trans h1.os, h2.tape.trans h1.tape, h2.output.trans h1.output, Nat.le_trans h1.size h2.size, fun k z a b c d => (h2.block k z (Nat.lt_of_lt_of_le a h1.size) b c d).trans (h1.block k z a b c d)⟩
theorem Fr.drew {g : Rg} {a b : World} (h : Fr g a b) : Fr g a b.drew := ⟨h.os, h.tape, h.output, h.size, h.block⟩
theorem Fr.drewN {g : Rg} {a b : World} (n : Nat) (h : Fr g a b) : Fr g a (b.drewN n) := ⟨h.os, h.tape, h.output, h.size, h.block⟩
theorem Fr.setCell {g : Rg} {a b : World} (h : Fr g a b) {x i : Nat} (hx : x = g.R ∨ x = g.bl ∨ x = g.bw) (v : Value) : Fr g a (b.setCell ⟨x, i, none⟩ v) := by
  have hb : Below 0 b (b.setCell ⟨x, i, none⟩ v) := Below.setCell (Below.refl 0 b) (Nat.zero_le _) v
  exact ⟨hb.os.trans h.os, hb.tape.trans h.tape, hb.output.trans h.output, Nat.le_trans h.size hb.size, fun k h0 h1 h2 h3 h4 => by
    rw [heap_setCell_other _ _ _ _ (fun e => by rcases hx with rfl | rfl | rfl <;> simp_all)]; exact h.block k h0 h1 h2 h3 h4⟩
theorem Fr.below {g : Rg} {a b c : World} (h : Fr g a b) (h2 : Below b.heap.size b c) : Fr g a c :=
  h.trans ⟨h2.os, h2.tape, h2.output, h2.size, fun k _ hk _ _ _ => h2.block k hk⟩
theorem Fr.alloc {g : Rg} {a b : World} (h : Fr g a b) (_hs : g.D ≤ b.heap.size) (o : Obj) : Fr g a (b.alloc o) := h.below ((Below.refl _ b).alloc (Nat.le_refl _) o)
theorem Fr.grown {g : Rg} {a b c : World} {row : Option Nat} (h : Fr g a b) (hr : ∀ k, row = some k → g.D ≤ k) (hp : ∀ k, row = some k → ¬ g.P k) (h2 : b.grownBy c row) : Fr g a c :=
  h.trans ⟨h2.os, h2.tape, h2.output, h2.size, fun k hk h3 _ _ _ => h2.block k h3 (fun e => by
    rcases hk with hk | hk
    · have := hr k e.symm; omega
    · exact hp k e.symm hk)⟩

section
variable {w u : World} {g : Rg} {d : Mt.Dk} {lim : Bool} {most : Nat} {tv : Value} {tn : Nat} {tcs : List Value}

theorem RD.kept (h : RD w g d lim most tv tn tcs) (hs : w.heap.size ≤ u.heap.size) (hk : ∀ k, k < w.heap.size → (k = g.R ∨ (d.lasts.length ≠ 0 ∧ (k = g.bl ∨ k = g.bw)) ∨ g.D ≤ k) → u.heap[k]? = w.heap[k]?) : RD u g d lim most tv tn tcs := by
  refine ⟨h.ok, ?_, fun hn => ?_, fun hn => ?_, own_at h.tears fun k h1 h2 => hk k h2 (.inr (.inr h1)), h.ltR, h.apart, Nat.le_trans h.size hs, h.room, h.most, h.prot, fun b hb => Nat.lt_of_lt_of_le (h.ltP b hb) hs⟩
  · rw [hk _ (lt_of_block h.row) (.inl rfl)]; exact h.row
  · obtain ⟨cs, h1, h2⟩ := h.lasts hn
    exact ⟨cs, by rw [hk _ (lt_of_block h1) (.inr (.inl ⟨hn, .inl rfl⟩))]; exact h1, h2⟩
  · obtain ⟨cs, h1, h2⟩ := h.waits hn
    exact ⟨cs, by rw [hk _ (lt_of_block h1) (.inr (.inl ⟨hn, .inr rfl⟩))]; exact h1, h2⟩
theorem RD.below (h : RD w g d lim most tv tn tcs) (hb : Below w.heap.size w u) : RD u g d lim most tv tn tcs := h.kept hb.size fun k hk _ => hb.block k hk
theorem RD.drew (h : RD w g d lim most tv tn tcs) : RD w.drew g d lim most tv tn tcs := h.kept (Nat.le_refl _) fun _ _ _ => rfl
theorem RD.drewN (n : Nat) (h : RD w g d lim most tv tn tcs) : RD (w.drewN n) g d lim most tv tn tcs := h.kept (Nat.le_refl _) fun _ _ _ => rfl
theorem RD.alloc (h : RD w g d lim most tv tn tcs) (o : Obj) : RD (w.alloc o) g d lim most tv tn tcs := h.below ((Below.refl _ _).alloc (Nat.le_refl _) o)

theorem RD.c0 (h : RD w g d lim most tv tn tcs) : w.cell? ⟨g.R, 0, none⟩ = some (slc d.lasts.length g.bl g.cl) := by rw [cell_of_row _ _ _ _ _ _ h.row]; rfl
theorem RD.c1 (h : RD w g d lim most tv tn tcs) : w.cell? ⟨g.R, 1, none⟩ = some (slc d.lasts.length g.bw g.cw) := by rw [cell_of_row _ _ _ _ _ _ h.row]; rfl
theorem RD.c2 (h : RD w g d lim most tv tn tcs) : w.cell? ⟨g.R, 2, none⟩ = some (.bool lim) := by rw [cell_of_row _ _ _ _ _ _ h.row]; rfl
theorem RD.c3 (h : RD w g d lim most tv tn tcs) : w.cell? ⟨g.R, 3, none⟩ = some (.int .i64 (most : Int)) := by rw [cell_of_row _ _ _ _ _ _ h.row]; rfl
theorem RD.c4 (h : RD w g d lim most tv tn tcs) : w.cell? ⟨g.R, 4, none⟩ = some (.bool d.off) := by rw [cell_of_row _ _ _ _ _ _ h.row]; rfl
theorem RD.c5 (h : RD w g d lim most tv tn tcs) : w.cell? ⟨g.R, 5, none⟩ = some (.int .i64 (d.cut : Int)) := by rw [cell_of_row _ _ _ _ _ _ h.row]; rfl
theorem RD.c6 (h : RD w g d lim most tv tn tcs) : w.cell? ⟨g.R, 6, none⟩ = some (.int .u64 (d.keep : Int)) := by rw [cell_of_row _ _ _ _ _ _ h.row]; rfl
theorem RD.c7 (h : RD w g d lim most tv tn tcs) : w.cell? ⟨g.R, 7, none⟩ = some (.int .i64 d.torn) := by rw [cell_of_row _ _ _ _ _ _ h.row]; rfl
theorem RD.c8 (h : RD w g d lim most tv tn tcs) : w.cell? ⟨g.R, 8, none⟩ = some (.int .i64 d.at') := by rw [cell_of_row _ _ _ _ _ _ h.row]; rfl
theorem RD.c9 (h : RD w g d lim most tv tn tcs) : w.cell? ⟨g.R, 9, none⟩ = some tv := by rw [cell_of_row _ _ _ _ _ _ h.row]; rfl
theorem RD.f (h : RD w g d lim most tv tn tcs) (i : Nat) : w.frozen? ⟨g.R, i, none⟩ = false := frozen_of_row _ _ _ _ _ h.row
theorem RD.cL (h : RD w g d lim most tv tn tcs) (i : Nat) (hi : i < d.lasts.length) : w.cell? ⟨g.bl, i, none⟩ = some (.string (lastT d i)) := by
  obtain ⟨cs, h1, h2⟩ := h.lasts (by omega)
  rw [cell_of_row _ _ _ _ _ _ h1]; exact h2 i hi
theorem RD.cW (h : RD w g d lim most tv tn tcs) (i : Nat) (hi : i < d.lasts.length) : w.cell? ⟨g.bw, i, none⟩ = some (.string (waitT d i)) := by
  obtain ⟨cs, h1, h2⟩ := h.waits (by omega)
  rw [cell_of_row _ _ _ _ _ _ h1]; exact h2 i hi
theorem RD.fL (h : RD w g d lim most tv tn tcs) (i : Nat) (hn : d.lasts.length ≠ 0) : w.frozen? ⟨g.bl, i, none⟩ = false := by
  obtain ⟨cs, h1, _⟩ := h.lasts hn
  exact frozen_of_row _ _ _ _ _ h1
theorem RD.fW (h : RD w g d lim most tv tn tcs) (i : Nat) (hn : d.lasts.length ≠ 0) : w.frozen? ⟨g.bw, i, none⟩ = false := by
  obtain ⟨cs, h1, _⟩ := h.waits hn
  exact frozen_of_row _ _ _ _ _ h1

theorem setCell_size (w : World) (p : Addr) (v : Value) : w.heap.size ≤ (w.setCell p v).heap.size := (Below.setCell (Below.refl 0 w) (Nat.zero_le _) v).size
theorem txts_other {b n x i : Nat} {f : Nat → ByteArray} (h : txts w b n f) (hx : b ≠ x) (v : Value) : txts (w.setCell ⟨x, i, none⟩ v) b n f := by
  obtain ⟨cs, h1, h2⟩ := h
  exact ⟨cs, by rw [heap_setCell_other _ _ _ _ hx]; exact h1, h2⟩
theorem txts_same {b n i : Nat} {f : Nat → ByteArray} (h : txts w b n f) (hi : i < n) (s : ByteArray) : txts (w.setCell ⟨b, i, none⟩ (.string s)) b n (fun j => if j = i then s else f j) := by
  obtain ⟨cs, h1, h2⟩ := h
  refine ⟨cs.setIfInBounds i (.string s), heap_setCell_same w b i _ _ _ h1, fun j hj => ?_⟩
  rw [Array.getElem?_setIfInBounds]
  by_cases e : i = j
  · subst e
    have h3 : i < cs.size := by
      have h := h2 i hi
      rcases Nat.lt_or_ge i cs.size with h4 | h4
      · exact h4
      · rw [Array.getElem?_eq_none h4] at h; cases h
    simp [h3]
  · rw [if_neg e]
    show cs[j]? = some (.string (if j = i then s else f j))
    rw [if_neg (fun h : j = i => e h.symm)]; exact h2 j hj
theorem txts_congr {b n : Nat} {f f' : Nat → ByteArray} (h : txts w b n f) (he : ∀ i, i < n → f i = f' i) : txts w b n f' := by
  obtain ⟨cs, h1, h2⟩ := h
  exact ⟨cs, h1, fun i hi => by rw [h2 i hi, he i hi]⟩

/-- A field is written. -/
theorem RD.field (h : RD w g d lim most tv tn tcs) (i : Nat) (v : Value) (d' : Mt.Dk) (lim' : Bool) (most' : Nat) (tv' : Value) (tn' : Nat) (tcs' : List Value) (hok : d'.Ok) (hl : d'.lasts = d.lasts) (hw : d'.waits = d.waits)
    (hc : (rCells g d lim most tv).setIfInBounds i v = rCells g d' lim' most' tv') (hroom : d'.room = if lim' = true ∧ most' < d'.lasts.length then most' else d'.lasts.length) (hm : most' ≤ 9223372036854775807) (ht : w.ownsRow g.D 98 3 tv' tn' tcs') (hv : tv' = tv := by rfl) :
    RD (w.setCell ⟨g.R, i, none⟩ v) g d' lim' most' tv' tn' tcs' := by
  have hr := heap_setCell_same w g.R i _ _ v h.row
  rw [hc] at hr
  have e1 : lastT d' = lastT d := by funext j; unfold lastT; rw [hl]
  have e2 : waitT d' = waitT d := by funext j; unfold waitT; rw [hw]
  refine ⟨hok, hr, fun hn => ?_, fun hn => ?_, own_at ht fun k h1 _ => heap_setCell_other _ _ _ _ (by have := h.ltR; show k ≠ g.R; omega), h.ltR, by rw [hl]; exact h.apart, Nat.le_trans h.size (setCell_size _ _ _), hroom, hm, by rw [hv]; exact h.prot, fun b hb => Nat.lt_of_lt_of_le (h.ltP b hb) (setCell_size _ _ _)⟩
  · rw [hl] at hn ⊢
    rw [e1]
    exact txts_other (h.lasts hn) (h.apart hn).2.2.2.1 v
  · rw [hl] at hn ⊢
    rw [e2]
    exact txts_other (h.waits hn) (h.apart hn).2.2.2.2 v
theorem rCells_len (g : Rg) (d d' : Mt.Dk) (lim : Bool) (most : Nat) (tv : Value) (h : d'.lasts.length = d.lasts.length) (h1 : d'.off = d.off) (h2 : d'.cut = d.cut) (h3 : d'.keep = d.keep) (h4 : d'.torn = d.torn) (h5 : d'.at' = d.at') : rCells g d' lim most tv = rCells g d lim most tv := by
  unfold rCells; rw [h, h1, h2, h3, h4, h5]
/-- A sector that lasts is written. -/
theorem RD.setL (h : RD w g d lim most tv tn tcs) (k : Nat) (hk : k < d.lasts.length) (s : List UInt8) (hs : s.length = 128) : RD (w.setCell ⟨g.bl, k, none⟩ (.string (Mt.str s))) g { d with lasts := d.lasts.set k s } lim most tv tn tcs := by
  have hn : d.lasts.length ≠ 0 := by omega
  obtain ⟨a1, a2, a3, a4, a5⟩ := h.apart hn
  have o := h.ok
  refine ⟨⟨by show d.waits.length = _; rw [List.length_set]; exact o.len, by show (d.lasts.set k s).length ≤ _; rw [List.length_set]; exact o.most, fun i hi => ?_, o.waits, by show d.room ≤ (d.lasts.set k s).length; rw [List.length_set]; exact o.room, o.cut, o.keep, o.torn, o.at'⟩, ?_, fun _ => ?_, fun _ => ?_, own_at h.tears fun k' h1 _ => heap_setCell_other _ _ _ _ (by show k' ≠ g.bl; omega), h.ltR, by rw [List.length_set]; exact h.apart, Nat.le_trans h.size (setCell_size _ _ _), by rw [List.length_set]; exact h.room, h.most, h.prot, fun b hb => Nat.lt_of_lt_of_le (h.ltP b hb) (setCell_size _ _ _)⟩
  · show ((d.lasts.set k s)[i]).length = 128
    rw [List.getElem_set]
    split
    · exact hs
    · exact o.lasts i (by have : i < (d.lasts.set k s).length := hi; rw [List.length_set] at this; exact this)
  · rw [heap_setCell_other _ _ _ _ (Ne.symm a4), rCells_len g d { d with lasts := d.lasts.set k s } lim most tv (by simp) rfl rfl rfl rfl rfl]; exact h.row
  · rw [List.length_set]
    refine txts_congr (txts_same (h.lasts hn) hk _) fun i hi => ?_
    unfold lastT
    simp only [List.getD, List.getElem?_set]
    by_cases e : k = i
    · subst e; simp [hk]
    · rw [if_neg (fun h : i = k => e h.symm), if_neg e]
  · rw [List.length_set]
    exact txts_other (h.waits hn) (Ne.symm a3) _
/-- A sector that waits is written. -/
theorem RD.setW (h : RD w g d lim most tv tn tcs) (k : Nat) (hk : k < d.lasts.length) (o : Option (List UInt8)) (ho : ∀ b, o = some b → b.length = 128) : RD (w.setCell ⟨g.bw, k, none⟩ (.string (wtxt o))) g { d with waits := d.waits.set k o } lim most tv tn tcs := by
  have hn : d.lasts.length ≠ 0 := by omega
  obtain ⟨a1, a2, a3, a4, a5⟩ := h.apart hn
  have q := h.ok
  refine ⟨⟨by show (d.waits.set k o).length = _; rw [List.length_set]; exact q.len, q.most, q.lasts, fun j b hb => ?_, q.room, q.cut, q.keep, q.torn, q.at'⟩, ?_, fun _ => ?_, fun _ => ?_, own_at h.tears fun k' h1 _ => heap_setCell_other _ _ _ _ (by show k' ≠ g.bw; omega), h.ltR, h.apart, Nat.le_trans h.size (setCell_size _ _ _), h.room, h.most, h.prot, fun b hb => Nat.lt_of_lt_of_le (h.ltP b hb) (setCell_size _ _ _)⟩
  · have hb' : (d.waits.set k o)[j]? = some (some b) := hb
    rw [List.getElem?_set] at hb'
    split at hb'
    · split at hb'
      · exact ho b (by simpa using hb')
      · cases hb'
    · exact q.waits j b hb'
  · rw [heap_setCell_other _ _ _ _ (Ne.symm a5), rCells_len g d { d with waits := d.waits.set k o } lim most tv rfl rfl rfl rfl rfl rfl]; exact h.row
  · exact txts_other (h.lasts hn) a3 _
  · refine txts_congr (txts_same (h.waits hn) hk _) fun i hi => ?_
    unfold waitT
    simp only [List.getD, List.getElem?_set]
    have hl : k < d.waits.length := by rw [q.len]; exact hk
    by_cases e : k = i
    · subst e; simp [hl]
    · rw [if_neg (fun h : i = k => e h.symm), if_neg e]
end

/-- What was torn, as cells. -/
def Mt.tearC (T : List (List UInt8 × List UInt8 × List UInt8)) : List Value := T.flatMap fun x => [.string (Mt.str x.1), .string (Mt.str x.2.1), .string (Mt.str x.2.2)]
theorem Mt.tearC_append (A B : List (List UInt8 × List UInt8 × List UInt8)) : Mt.tearC (A ++ B) = Mt.tearC A ++ Mt.tearC B := List.flatMap_append
/-- The document's disk, of at most so many that were torn. -/
def IsR (w : World) (g : Rg) (t : Nat) (d : Mt.Dk) : Prop := ∃ lim most tv tn tcs, RD w g d lim most tv tn tcs ∧ tn ≤ t ∧ tcs = Mt.tearC d.tears
theorem IsR.below {w u : World} {g : Rg} {t : Nat} {d : Mt.Dk} (h : IsR w g t d) (hb : Below w.heap.size w u) : IsR u g t d := by
  obtain ⟨a, b, c, e, f, h, ht⟩ := h
  exact ⟨a, b, c, e, f, h.below hb, ht⟩
theorem IsR.mono {w : World} {g : Rg} {t t' : Nat} {d : Mt.Dk} (h : IsR w g t d) (hb : t ≤ t') : IsR w g t' d := by
  obtain ⟨a, b, c, e, f, h, ht⟩ := h
  exact ⟨a, b, c, e, f, h, Nat.le_trans ht.1 hb, ht.2⟩
theorem IsR.size {w : World} {g : Rg} {t : Nat} {d : Mt.Dk} (h : IsR w g t d) : g.D ≤ w.heap.size := by
  obtain ⟨a, b, c, e, f, h, ht⟩ := h
  exact h.size
theorem IsR.ok {w : World} {g : Rg} {t : Nat} {d : Mt.Dk} (h : IsR w g t d) : d.Ok := by
  obtain ⟨a, b, c, e, f, h, ht⟩ := h
  exact h.ok
end Go.Proofs.YtnioagojiipjlaaGreat
