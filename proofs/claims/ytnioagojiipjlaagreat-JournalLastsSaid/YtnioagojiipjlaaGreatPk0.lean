/-
  Some texts of one proof, one behind the other.
-/
import Derived.WalkKit
import Derived.Laws.BytesArg
import Derived.Test.YtnioagojiipjlaaGreatProg
import Derived.Lib.Hide
import Derived.WalkSpells
import Derived.WalkLawsBesides
set_option linter.unusedVariables false
set_option linter.unusedSimpArgs false

/-
  Plain facts on numbers, lists of numbers and texts of bytes that the proofs of this seat lean on. Nothing of the program stands here.
-/
namespace Go.Proofs.YtnioagojiipjlaaGreat.Mt

/-- The k lowest bytes of n, the highest first. -/
def be (n : Nat) : Nat → List Int
  | 0 => []
  | k + 1 => ((n / 256 ^ k % 256 : Nat) : Int) :: be n k

theorem be_length (n : Nat) : ∀ k, (be n k).length = k
  | 0 => rfl
  | k + 1 => by simp [be, be_length n k]

/-- What lies in the slice behind k rounds. -/
def pad (n size k : Nat) : List Int := List.replicate (size - k) 0 ++ be n k

theorem pad_length (n size k : Nat) (h : k ≤ size) : (pad n size k).length = size := by
  simp [pad, be_length]; omega

theorem pad_zero (n size : Nat) : pad n size 0 = List.replicate size 0 := by simp [pad, be]
theorem pad_full (n size : Nat) : pad n size size = be n size := by simp [pad]

theorem pad_succ (n size k : Nat) (h : k < size) :
    (pad n size k).set (size - 1 - k) ((n / 256 ^ k % 256 : Nat) : Int) = pad n size (k + 1) := by
  unfold pad
  have e : size - k = (size - (k + 1)) + 1 := by omega
  have e2 : size - 1 - k = size - (k + 1) := by omega
  rw [e, List.replicate_succ', e2, List.append_assoc, List.set_append_right _ _ (by simp)]
  simp [be]

theorem map_set_int (k : IntKind) (l : List Int) (j : Nat) (x : Int) : (l.map (Value.int k)).set j (.int k x) = (l.set j x).map (Value.int k) := by
  rw [List.map_set]

theorem byte_of (n k : Nat) : (n : Int) / 2 ^ (8 * k) % 256 = ((n / 256 ^ k % 256 : Nat) : Int) := by
  have h : (2 : Nat) ^ (8 * k) = 256 ^ k := by rw [Nat.pow_mul]
  have h2 : (2 : Int) ^ (8 * k) = ((256 ^ k : Nat) : Int) := by rw [← h]; simp
  rw [h2]; omega

/-- A half byte's digit. -/
def dg (n : Nat) : Int := if n < 10 then ((48 + n : Nat) : Int) else ((87 + n : Nat) : Int)

/-- The digits of bytes. -/
def hex : List UInt8 → List Int
  | [] => []
  | c :: r => dg (c.toNat / 16) :: dg (c.toNat % 16) :: hex r

theorem hex_append : ∀ (a b : List UInt8), hex (a ++ b) = hex a ++ hex b
  | [], _ => rfl
  | c :: r, b => by simp [hex, hex_append r b]
theorem hex_length : ∀ a : List UInt8, (hex a).length = 2 * a.length
  | [] => rfl
  | c :: r => by simp [hex, hex_length r]; omega

theorem take_snoc (s : ByteArray) (k : Nat) (h : k < s.size) : s.data.toList.take (k + 1) = s.data.toList.take k ++ [s[k]] := by
  rw [List.take_succ_eq_append_getElem (by simpa using h)]; rfl

theorem and15 (x : Int) (h0 : 0 ≤ x) (h1 : x < 256) : bits .and .u8 x 15 = x % 16 := by
  have h := bits_mask .u8 8 (by decide) wraps_u8 4 (by decide) x h0 (by simpa using h1)
  simpa using h

theorem ret_str {a b : ByteArray} (h : a = b) : Ending.returned (.string a) = .returned (.string b) := by rw [h]
theorem ret_int {k : IntKind} {a b : Int} (h : a = b) : Ending.returned (.int k a) = .returned (.int k b) := by rw [h]
theorem ret_bool {a b : Bool} (h : a = b) : Ending.returned (.bool a) = .returned (.bool b) := by rw [h]

theorem strOfNums_nil : strOfNums [] = ByteArray.empty := rfl
theorem strOfNums_append (a b : List Int) : strOfNums a ++ strOfNums b = strOfNums (a ++ b) := by
  apply ByteArray.ext
  simp [strOfNums]

end Go.Proofs.YtnioagojiipjlaaGreat.Mt

/-
  What the calls octet.fits and octet.Put come to, at every input: contracts, walked over the program's text.
-/
namespace Go.Proofs.YtnioagojiipjlaaGreat
open Go.RowKit

theorem Tryz.info5 : (Tryz.prog.info? 5).map (fun i => (i.zero, i.size, i.bytes)) = some (some (.int .u8 0), 1, 1) := by kernel_rfl

theorem fits_yes (n : Int) (w : World) (h1 : 1 ≤ n) (h2 : n ≤ 8) : Calls Tryz.prog 104 #[.int .i64 n] w fun e w' => e = .returned (.bool true) ∧ w = w' := by
  go_enter Tryz.func104, Tryz.ntmps104
  go_wp2
  go_ret
  exact ⟨rfl, rfl⟩

theorem fits_no (n : Int) (w : World) (h : n < 1 ∨ 8 < n) : Calls Tryz.prog 104 #[.int .i64 n] w fun e w' => e = .returned (.bool false) ∧ w = w' := by
  rcases h with h | h
  · go_enter Tryz.func104, Tryz.ntmps104
    go_wp2
    go_ret
    exact ⟨rfl, rfl⟩
  · have h1 : 1 ≤ n := by omega
    have h2 : decide (n ≤ 8) = false := by simp; omega
    go_enter Tryz.func104, Tryz.ntmps104
    go_wp2
    go_ret
    exact ⟨rfl, rfl⟩

theorem put_no (n size : Int) (w : World) (h : size < 1 ∨ 8 < size) : Calls Tryz.prog 94 #[.int .u64 n, .int .i64 size] w fun e w' => e = .returned (.string ByteArray.empty) ∧ w = w' := by
  go_enter Tryz.func94, Tryz.ntmps94
  go_wp2_with (go_at_call 104; refine (fits_no _ _ h).mono ?_; rintro e w' ⟨rfl, rfl⟩)
  go_ret
  exact ⟨rfl, rfl⟩

set_option maxHeartbeats 400000 in
theorem put_yes (n size : Nat) (w : World) (h1 : 1 ≤ size) (h2 : size ≤ 8) :
    Calls Tryz.prog 94 #[.int .u64 n, .int .i64 size] w fun e w' => e = .returned (.string (strOfNums (Mt.be n size))) ∧ Below w.heap.size w w' := by
  obtain ⟨i0, hi, hz0, hz1, hz2⟩ := info_parts Tryz.info5
  go_enter Tryz.func94, Tryz.ntmps94
  go_wp2_with (first | (go_at_call 104; refine (fits_yes _ _ (by omega) (by omega)).mono ?_; rintro e w' ⟨rfl, rfl⟩) | (at_make; refine wpList_make_full _ rfl _ _ 73 rfl w.heap.size 5 i0 (.int .u8 0) 1 Tryz.underlying73 hi hz0 hz1 .i64 .i64 _ _ size rfl rfl rfl rfl (by rw [hz2]; omega) (by unfold maxLen; omega) (Nat.le_refl _) ?_; intro w1 hown hgr))
  have hb1 : Hid (Below w.heap.size w w1) := (Below.refl _ _).grown hgr (Nat.le_refl _) (fun k hk => by cases hk)
  have hown1 : w1.ownsRow w.heap.size 5 1 (.slice (some ⟨w.heap.size, 0, none⟩) size size) size ((Mt.pad n size 0).map (Value.int .u8)) := by
    rw [Mt.pad_zero, List.map_replicate]; simpa [toList_madeCells_one, Value.cells] using hown
  clear hown hgr hi hz0 hz1 hz2
  go_loopw [13] (fun i wr => ∃ k : Nat, k ≤ size ∧ i = .int .i64 k ∧ wr.ownsRow w.heap.size 5 1 (.slice (some ⟨w.heap.size, 0, none⟩) size size) size ((Mt.pad n size k).map (Value.int .u8)) ∧ Hid (Below w.heap.size w wr))
    (fun i _ => size - (intOf i).toNat)
  case atStart => exact ⟨0, Nat.zero_le _, rfl, hown1, hb1⟩
  case round =>
    obtain ⟨k, hk, rfl, hown, HB⟩ := hrel
    by_cases hlt : k < size
    · have hcell : wr.cell? ⟨w.heap.size, size - 1 - k, none⟩ = some (.int .u8 ((Mt.pad n size k).getD (size - 1 - k) 0)) := by
        rw [hown.cellAt _ (by omega)]
        have hl := Mt.pad_length n size k hk
        simp [List.getD, List.getElem?_eq_getElem (show size - 1 - k < (Mt.pad n size k).length by omega)]
      have hfz := hown.frozenAt (size - 1 - k)
      go_wp2
      go_roundw
      case rel =>
        have e : (Value.int IntKind.u8 ((n : Int) / 2 ^ (8 * k) % 256)) = .int .u8 ((n / 256 ^ k % 256 : Nat) : Int) := by
          rw [Mt.byte_of]
        rw [e]
        refine ⟨k + 1, by omega, by go_num, ?_, Below.setCell HB.out (Nat.le_refl _) _⟩
        have := (hown.stored (size - 1 - k) (.int .u8 ((n / 256 ^ k % 256 : Nat) : Int))).1
        rwa [Mt.map_set_int, Mt.pad_succ n size k hlt] at this
      case measure => simp [intOf]; omega
    · have hcv := run_convert_bytes_arg (P := Tryz.prog) wr 73 5 Tryz.underlying73 Tryz.underlying5 w.heap.size 0 size size (Mt.pad n size k) (Mt.pad_length n size k hk) (fun i hi => by
        rw [Nat.zero_add, hown.cellAt _ (by omega)]
        have hl := Mt.pad_length n size k hk
        simp [List.getD, List.getElem?_eq_getElem (show i < (Mt.pad n size k).length by omega)]) 9 Tryz.underlying9
      go_wp2
      go_ret
      obtain rfl : k = size := by omega
      exact ⟨Mt.ret_str (by rw [Mt.pad_full]), HB.out⟩


theorem conv_one (wr : World) (x : Int) : (convert 73 9 (.slice (some ⟨wr.heap.size, 0, none⟩) 1 1)).run Tryz.prog (wr.alloc (.cells #[.int .u8 x] 5)) =
    .ok (.string (strOfNums [x])) (wr.alloc (.cells #[.int .u8 x] 5)) :=
  run_convert_bytes_arg (P := Tryz.prog) _ 73 5 Tryz.underlying73 Tryz.underlying5 wr.heap.size 0 1 1 [x] rfl (fun i hi => by
    obtain rfl : i = 0 := by omega
    have h := cell_one_new wr (.int .u8 x) 5 0 (.int .u8 x) rfl
    exact h) 9 Tryz.underlying9

end Go.Proofs.YtnioagojiipjlaaGreat

/-
  Plain facts on texts: small letters, and texts without blanks too many. Nothing of the program stands here.
-/
namespace Go.Proofs.YtnioagojiipjlaaGreat.Mt

/-- The small letter of a capital one. -/
def smN (c : Nat) : Nat := if 65 ≤ c ∧ c ≤ 90 then c + 32 else c
def sm (c : UInt8) : UInt8 := UInt8.ofNat (smN c.toNat)

theorem smN_lt (c : UInt8) : smN c.toNat < 256 := by have := c.toNat_lt; unfold smN; split <;> omega
theorem sm_toNat (c : UInt8) : (sm c).toNat = smN c.toNat := by
  have := smN_lt c
  unfold sm
  simp [UInt8.toNat_ofNat']; omega
theorem u8_ext {a b : UInt8} (h : a.toNat = b.toNat) : a = b := UInt8.toNat_inj.1 h
theorem sm_sm (c : UInt8) : sm (sm c) = sm c := by
  apply u8_ext; rw [sm_toNat, sm_toNat]; unfold smN
  by_cases h : 65 ≤ c.toNat ∧ c.toNat ≤ 90
  · rw [if_pos h, if_neg (by omega)]
  · rw [if_neg h, if_neg h]
theorem sm_blank (c : UInt8) : sm c = 32 ↔ c = 32 := by
  constructor
  · intro h
    have h1 : (sm c).toNat = 32 := by rw [h]; rfl
    rw [sm_toNat] at h1
    apply u8_ext; unfold smN at h1
    show c.toNat = 32
    split at h1 <;> omega
  · rintro rfl; rfl
theorem eq32 (c : UInt8) : c = 32 ↔ c.toNat = 32 := ⟨fun h => by rw [h]; rfl, fun h => u8_ext h⟩

/-- What lies in a slice of bytes. -/
def cs (l : List UInt8) : List Value := l.map fun c => Value.int .u8 c.toNat
theorem cs_length (l : List UInt8) : (cs l).length = l.length := by simp [cs]
theorem cs_append (a b : List UInt8) : cs (a ++ b) = cs a ++ cs b := by simp [cs]
theorem cs_take (l : List UInt8) (n : Nat) : (cs l).take n = cs (l.take n) := by simp [cs]

/-- A text of bytes. -/
def str (l : List UInt8) : ByteArray := ⟨l.toArray⟩
theorem str_size (l : List UInt8) : (str l).size = l.length := by simp [str, ByteArray.size]
theorem str_data (l : List UInt8) : (str l).data.toList = l := rfl
theorem str_of (s : ByteArray) : str s.data.toList = s := rfl
theorem str_nums (l : List UInt8) : strOfNums (l.map fun c => (c.toNat : Int)) = str l := by
  apply ByteArray.ext
  simp [strOfNums, str, Function.comp_def]

theorem fold_cell (s : ByteArray) (k : Nat) (h : k < s.size) : (cs ((s.data.toList.map sm).take k ++ List.replicate (s.size - k) 0))[k]? = some (.int .u8 0) := by
  have e : s.size - k = (s.size - k - 1) + 1 := by omega
  have hl : ((s.data.toList.map sm).take k).length = k := by simp; omega
  rw [cs_append, List.getElem?_append_right (by rw [cs_length, hl]; exact Nat.le_refl _), cs_length, hl, Nat.sub_self, e, List.replicate_succ]
  rfl
theorem fold_set (s : ByteArray) (k : Nat) (h : k < s.size) :
    (cs ((s.data.toList.map sm).take k ++ List.replicate (s.size - k) 0)).set k (.int .u8 (sm s[k]).toNat) = cs ((s.data.toList.map sm).take (k + 1) ++ List.replicate (s.size - (k + 1)) 0) := by
  have e : s.size - k = (s.size - (k + 1)) + 1 := by omega
  have hl : ((s.data.toList.map sm).take k).length = k := by simp; omega
  rw [cs_append, List.set_append_right _ _ (by rw [cs_length, hl]; exact Nat.le_refl _), cs_length, hl, Nat.sub_self, e, List.replicate_succ]
  have ht : (s.data.toList.map sm).take (k + 1) = (s.data.toList.map sm).take k ++ [sm s[k]] := by
    rw [← List.map_take, take_snoc s k h, List.map_append, ← List.map_take]; rfl
  rw [ht, List.append_assoc, cs_append]
  simp [cs]

def endB (o : List UInt8) : Bool := o.isEmpty || o.getLast? == some 32

/-- One byte more. -/
def step (o : List UInt8) (c : UInt8) : List UInt8 := if c = 32 ∧ endB o = true then o else o ++ [sm c]
def run (l : List UInt8) : List UInt8 := l.foldl step []
def prep (l : List UInt8) : List UInt8 := if (run l).getLast? = some 32 then (run l).dropLast else run l

theorem run_snoc (l : List UInt8) (c : UInt8) : run (l ++ [c]) = step (run l) c := by simp [run]
theorem snoc_ind {α : Type} {P : List α → Prop} (h0 : P []) (h1 : ∀ l a, P l → P (l ++ [a])) (l : List α) : P l := by
  have h : ∀ l : List α, P l.reverse := by
    intro l
    induction l with
    | nil => exact h0
    | cons a r ih => rw [List.reverse_cons]; exact h1 _ _ ih
  have := h l.reverse
  rwa [List.reverse_reverse] at this
theorem run_length (l : List UInt8) : (run l).length ≤ l.length := by
  refine snoc_ind (P := fun l => (run l).length ≤ l.length) (by simp [run]) (fun l c ih => ?_) l
  show (run (l ++ [c])).length ≤ _
  rw [run_snoc]; unfold step
  split <;> simp <;> omega

/-- Whether something else than blanks stands from a place on. -/
def later (t : List UInt8) (i : Nat) : Bool := (t.drop i).any fun c => c != 32

theorem later_true (t : List UInt8) (i j : Nat) (hij : i ≤ j) (hj : j < t.length) (h : t.getD j 0 ≠ 32) : later t i = true := by
  unfold later
  rw [List.any_eq_true]
  refine ⟨t.getD j 0, ?_, by simpa using h⟩
  rw [List.mem_iff_getElem]
  refine ⟨j - i, by simp; omega, ?_⟩
  simp [List.getD, List.getElem?_eq_getElem hj, show i + (j - i) = j by omega]

theorem later_false (t : List UInt8) (i : Nat) (h : ∀ m, i ≤ m → m < t.length → t.getD m 0 = 32) : later t i = false := by
  unfold later
  rw [List.any_eq_false]
  intro c hc
  rw [List.mem_iff_getElem] at hc
  obtain ⟨m, hm, rfl⟩ := hc
  simp at hm
  have := h (i + m) (by omega) (by omega)
  simp [List.getD, List.getElem?_eq_getElem (show i + m < t.length by omega)] at this
  simp [this]

/-- One place more, as the document has it. -/
def rstep (t : List UInt8) (i : Nat) (b : List UInt8) : List UInt8 :=
  if later t i = false ∨ (t.getD i 0 = 32 ∧ (b = [] ∨ t.getD (i - 1) 0 = 32)) then b else b ++ [t.getD i 0]
def rb (t : List UInt8) : Nat → List UInt8
  | 0 => []
  | i + 1 => rstep t i (rb t i)
theorem rb_length (t : List UInt8) : ∀ i, (rb t i).length ≤ i
  | 0 => by simp [rb]
  | i + 1 => by
    have := rb_length t i
    simp only [rb, rstep]
    split <;> simp <;> omega

/-- The number whose bytes stand from a place on, the highest first. -/
def gn (l : List UInt8) (a : Nat) : Nat → Nat
  | 0 => 0
  | k + 1 => 256 * gn l a k + (l.getD (a + k) 0).toNat

theorem gn_lt (l : List UInt8) (a : Nat) : ∀ k, gn l a k < 256 ^ k
  | 0 => by simp [gn]
  | k + 1 => by
    have h := gn_lt l a k
    have hc := (l.getD (a + k) 0).toNat_lt
    rw [Nat.pow_succ]
    simp only [gn]
    omega
theorem gn_lt56 (l : List UInt8) (a k : Nat) (hk : k < 8) : gn l a k < 72057594037927936 := by
  have h := gn_lt l a k
  have h2 : (256 : Nat) ^ k ≤ 256 ^ 7 := Nat.pow_le_pow_right (by decide) (by omega)
  have h3 : (256 : Nat) ^ 7 = 72057594037927936 := by decide
  omega

theorem or_byte (x c : Int) (h0 : 0 ≤ x) (h1 : x < 72057594037927936) (h2 : 0 ≤ c) (h3 : c < 256) : bits .or .u64 (x * 256) c = x * 256 + c := by
  refine bits_join .u64 64 (by decide) (fun n ha hb => ?_) 8 (x * 256) c (by omega) (by omega) ?_ h2 (by simpa using h3) ?_
  · simp [IntKind.wrap, IntKind.bits, IntKind.signed]; omega
  · simp; omega
  · simp; omega

end Go.Proofs.YtnioagojiipjlaaGreat.Mt

/-
  What the call octet.Get comes to, at every text, place and count.
-/
namespace Go.Proofs.YtnioagojiipjlaaGreat
open Go.RowKit

theorem get_size (s : ByteArray) (at' size : Int) (w : World) (h : size < 1 ∨ 8 < size) :
    Calls Tryz.prog 95 #[.string s, .int .i64 at', .int .i64 size] w fun e w' => e = .returned (.tuple #[.int .u64 0, .bool false]) ∧ w = w' := by
  go_enter Tryz.func95, Tryz.ntmps95
  go_wp2_with (go_at_call 104; refine (fits_no _ _ h).mono ?_; rintro e w' ⟨rfl, rfl⟩)
  go_ret2
  exact ⟨rfl, rfl⟩

theorem get_neg (s : ByteArray) (at' size : Int) (w : World) (h1 : 1 ≤ size) (h2 : size ≤ 8) (h : at' < 0) :
    Calls Tryz.prog 95 #[.string s, .int .i64 at', .int .i64 size] w fun e w' => e = .returned (.tuple #[.int .u64 0, .bool false]) ∧ w = w' := by
  go_enter Tryz.func95, Tryz.ntmps95
  go_wp2_with (go_at_call 104; refine (fits_yes _ _ h1 h2).mono ?_; rintro e w' ⟨rfl, rfl⟩)
  go_ret2
  exact ⟨rfl, rfl⟩

theorem get_far (s : ByteArray) (at' size : Int) (w : World) (hs : s.size ≤ 140737488351232) (h1 : 1 ≤ size) (h2 : size ≤ 8) (h0 : 0 ≤ at') (h : (s.size : Int) - size < at') :
    Calls Tryz.prog 95 #[.string s, .int .i64 at', .int .i64 size] w fun e w' => e = .returned (.tuple #[.int .u64 0, .bool false]) ∧ w = w' := by
  have hd : decide (at' < 0) = false := by simp; omega
  go_enter Tryz.func95, Tryz.ntmps95
  go_wp2_with (go_at_call 104; refine (fits_yes _ _ h1 h2).mono ?_; rintro e w' ⟨rfl, rfl⟩)
  go_ret2
  exact ⟨rfl, rfl⟩

set_option maxHeartbeats 400000 in
set_option maxRecDepth 100000 in
theorem get_yes (s : ByteArray) (a size : Nat) (w : World) (hs : s.size ≤ 281474976710700) (h1 : 1 ≤ size) (h2 : size ≤ 8) (h : a + size ≤ s.size) :
    Calls Tryz.prog 95 #[.string s, .int .i64 a, .int .i64 size] w fun e w' => e = .returned (.tuple #[.int .u64 (Mt.gn s.data.toList a size), .bool true]) ∧ w = w' := by
  have hd : decide ((a : Int) < 0) = false := by simp
  have hd2 : decide ((s.size : Int) - (size : Int) < (a : Int)) = false := by simp; omega
  have hs2 : (size : Int) ≤ 8 := by omega
  go_enter Tryz.func95, Tryz.ntmps95
  go_wp2_with (go_at_call 104; refine (fits_yes _ _ (by omega) (by omega)).mono ?_; rintro e w' ⟨rfl, rfl⟩)
  go_loop [8, 26] (fun n i => ∃ k : Nat, k ≤ size ∧ i = .int .i64 k ∧ n = .int .u64 (Mt.gn s.data.toList a k)) (fun _ i => size - (intOf i).toNat)
  case atStart => exact ⟨0, Nat.zero_le _, rfl, rfl⟩
  case round =>
    obtain ⟨k, hk, rfl, rfl⟩ := hrel
    by_cases hlt : k < size
    · have hg := Mt.gn_lt56 s.data.toList a k (by omega)
      have HG := Lib.hid (show Mt.gn s.data.toList a (k + 1) = 256 * Mt.gn s.data.toList a k + (s.data.toList.getD (a + k) 0).toNat from rfl)
      obtain ⟨g, hge⟩ : ∃ g, Mt.gn s.data.toList a k = g := ⟨_, rfl⟩
      rw [hge] at hg HG ⊢
      clear hge
      have hin : a + k < s.size := by omega
      have hce : s.data.toList.getD (a + k) 0 = s[a + k] := by
        simp [List.getD, List.getElem?_eq_getElem (show a + k < s.data.toList.length by simpa using hin)]; rfl
      rw [hce] at HG
      clear hce
      obtain ⟨c, hc⟩ : ∃ c, s[a + k] = c := ⟨_, rfl⟩
      rw [hc] at HG
      have hc256 : (c.toNat : Int) < 256 := by have := c.toNat_lt; omega
      have hor := Mt.or_byte (g : Int) c.toNat (by omega) (by omega) (by omega) hc256
      have HGB := Lib.hid hg
      clear hg
      have HOR := Lib.hid hor
      clear hor
      go_wp2
      go_round
      case rel =>
        refine ⟨k + 1, by omega, by go_num, ?_⟩
        have hw : IntKind.u64.wrap ((g : Int) * 256) = (g : Int) * 256 := by
          have := HGB.out
          simp [IntKind.wrap, IntKind.bits, IntKind.signed]; omega
        rw [hw, HOR.out, HG.out]
        congr 1; omega
      case measure => simp [intOf]; omega
    · go_wp2
      go_ret2
      obtain rfl : k = size := by omega
      exact ⟨rfl, rfl⟩

end Go.Proofs.YtnioagojiipjlaaGreat

/-
  Plain facts on digits read back. Nothing of the program stands here.
-/
namespace Go.Proofs.YtnioagojiipjlaaGreat.Mt

/-- A digit's value. -/
def hv (c : Nat) : Option Nat :=
  if 48 ≤ c ∧ c ≤ 57 then some (c - 48) else if 97 ≤ c ∧ c ≤ 102 then some (c - 87) else if 65 ≤ c ∧ c ≤ 70 then some (c - 55) else none

theorem hv_lt {c v : Nat} (h : hv c = some v) : v < 16 := by
  unfold hv at h
  split at h
  · cases h; omega
  · split at h
    · cases h; omega
    · split at h
      · cases h; omega
      · cases h

theorem hv_dg (c : UInt8) (x : Nat) (hx : x < 16) : dg x = ((sm c).toNat : Int) ↔ hv c.toNat = some x := by
  have hs := sm_toNat c
  have hlt := c.toNat_lt
  generalize (sm c).toNat = m at hs
  generalize c.toNat = n at hs hlt
  unfold smN at hs
  unfold dg hv
  by_cases h1 : 48 ≤ n ∧ n ≤ 57
  · rw [if_pos h1]
    rw [if_neg (by omega)] at hs
    split <;> simp only [Option.some.injEq] <;> omega
  · rw [if_neg h1]
    by_cases h2 : 97 ≤ n ∧ n ≤ 102
    · rw [if_pos h2]
      rw [if_neg (by omega)] at hs
      split <;> simp only [Option.some.injEq] <;> omega
    · rw [if_neg h2]
      by_cases h3 : 65 ≤ n ∧ n ≤ 70
      · rw [if_pos h3]
        rw [if_pos (by omega)] at hs
        split <;> simp only [Option.some.injEq] <;> omega
      · rw [if_neg h3]
        have : ∀ b : Prop, (b ↔ (none : Option Nat) = some x) ↔ ¬ b := fun b => by simp
        rw [this]
        by_cases h4 : 65 ≤ n ∧ n ≤ 90
        · rw [if_pos h4] at hs
          split <;> omega
        · rw [if_neg h4] at hs
          split <;> omega

/-- The value of two digits. -/
def pv (l : List UInt8) (k : Nat) : Option Nat :=
  match hv (l.getD (2 * k) 0).toNat, hv (l.getD (2 * k + 1) 0).toNat with
  | some x, some y => some (16 * x + y)
  | _, _ => none

theorem pv_some {l : List UInt8} {k x y : Nat} (hx : hv (l.getD (2 * k) 0).toNat = some x) (hy : hv (l.getD (2 * k + 1) 0).toNat = some y) : pv l k = some (16 * x + y) := by
  unfold pv; rw [hx, hy]
theorem pv_none1 {l : List UInt8} {k : Nat} (hx : hv (l.getD (2 * k) 0).toNat = none) : pv l k = none := by
  unfold pv; rw [hx]
theorem pv_none2 {l : List UInt8} {k : Nat} (hy : hv (l.getD (2 * k + 1) 0).toNat = none) : pv l k = none := by
  unfold pv; rw [hy]; split <;> first | rfl | contradiction

/-- What is read of the first k pairs. -/
def uh (l : List UInt8) : Nat → Option (List UInt8)
  | 0 => some []
  | k + 1 => match uh l k, pv l k with
    | some o, some x => some (o ++ [UInt8.ofNat x])
    | _, _ => none

theorem uh_some {l : List UInt8} {k x : Nat} {o : List UInt8} (h : uh l k = some o) (hx : pv l k = some x) : uh l (k + 1) = some (o ++ [UInt8.ofNat x]) := by
  simp [uh, h, hx]
theorem uh_none {l : List UInt8} {k : Nat} (hx : pv l k = none) : uh l (k + 1) = none := by
  unfold uh; rw [hx]; split <;> first | rfl | contradiction
theorem uh_none_of {l : List UInt8} {k : Nat} (h : uh l k = none) : uh l (k + 1) = none := by
  unfold uh; rw [h]
theorem uh_none_le {l : List UInt8} {k : Nat} (h : uh l k = none) : ∀ n, uh l (k + n) = none
  | 0 => h
  | n + 1 => uh_none_of (uh_none_le h n)
theorem uh_length {l : List UInt8} : ∀ {k : Nat} {o : List UInt8}, uh l k = some o → o.length = k
  | 0, o, h => by simp [uh] at h; subst h; rfl
  | k + 1, o, h => by
    unfold uh at h
    split at h
    · rename_i o' x h1 h2
      cases h
      simp [uh_length h1]
    · cases h

/-- The bytes whose digits a text is, and whether it is such digits. -/
def unhex (l : List UInt8) : List UInt8 × Bool :=
  if l.length % 2 = 0 then match uh l (l.length / 2) with
    | some o => (o, true)
    | none => ([], false)
  else ([], false)

theorem unhex_odd {l : List UInt8} (h : l.length % 2 ≠ 0) : unhex l = ([], false) := by simp [unhex, h]
theorem unhex_bad {l : List UInt8} {k : Nat} (hk : k < l.length / 2) (h : pv l k = none) : unhex l = ([], false) := by
  unfold unhex
  split
  · have := uh_none_le (uh_none h) (l.length / 2 - (k + 1))
    rw [show k + 1 + (l.length / 2 - (k + 1)) = l.length / 2 by omega] at this
    rw [this]
  · rfl
theorem unhex_good {l : List UInt8} {o : List UInt8} (h : l.length % 2 = 0) (ho : uh l (l.length / 2) = some o) : unhex l = (o, true) := by
  simp [unhex, h, ho]

theorem pv_iff {l : List UInt8} {k n : Nat} {c d : UInt8} (hc : l.getD (2 * k) 0 = c) (hd : l.getD (2 * k + 1) 0 = d) (hn : n < 256) :
    pv l k = some n ↔ dg (n / 16) = ((sm c).toNat : Int) ∧ dg (n % 16) = ((sm d).toNat : Int) := by
  rw [hv_dg c (n / 16) (by omega), hv_dg d (n % 16) (by omega)]
  constructor
  · intro h
    unfold pv at h
    rw [hc, hd] at h
    split at h
    · rename_i x y hx hy
      have h1 := hv_lt hx
      have h2 := hv_lt hy
      cases h
      rw [hx, hy]
      exact ⟨by congr 1; omega, by congr 1; omega⟩
    · cases h
  · rintro ⟨h1, h2⟩
    rw [pv_some (by rw [hc]; exact h1) (by rw [hd]; exact h2)]
    congr 1; omega
theorem pv_lt {l : List UInt8} {k n : Nat} (h : pv l k = some n) : n < 256 := by
  unfold pv at h
  split at h
  · rename_i x y hx hy
    have h1 := hv_lt hx
    have h2 := hv_lt hy
    cases h; omega
  · cases h
theorem pv_all {l : List UInt8} {k : Nat} (h : ∀ n, n < 256 → pv l k ≠ some n) : pv l k = none := by
  cases hp : pv l k with
  | none => rfl
  | some n => exact absurd hp (h n (pv_lt hp))

theorem str_map_get (s : ByteArray) (j : Nat) (h : j < s.size) (h2 : j < (str (s.data.toList.map sm)).size) : (str (s.data.toList.map sm))[j]'h2 = sm (s.data.toList.getD j 0) := by
  have hl : j < s.data.toList.length := h
  have e : (str (s.data.toList.map sm)).data.toList[j]? = some ((str (s.data.toList.map sm))[j]'h2) := by
    rw [List.getElem?_eq_getElem (show j < (str (s.data.toList.map sm)).data.toList.length from h2)]; rfl
  rw [str_data, List.getElem?_map, List.getElem?_eq_getElem hl] at e
  simp only [Option.map_some, Option.some.injEq] at e
  rw [← e]
  simp only [List.getD, List.getElem?_eq_getElem hl, Option.getD_some]

theorem or_half (x y : Int) (h0 : 0 ≤ x) (h1 : x < 16) (h2 : 0 ≤ y) (h3 : y < 16) : bits .or .u8 (x * 16) y = x * 16 + y := by
  refine bits_join .u8 8 (by decide) wraps_u8 4 (x * 16) y (by omega) (by omega) ?_ h2 (by simpa using h3) ?_
  · simp; omega
  · simp; omega
theorem ofNat_pair (x y : Nat) (hx : x < 16) (hy : y < 16) : ((UInt8.ofNat (16 * x + y)).toNat : Int) = (x : Int) * 16 + y := by
  simp [UInt8.toNat_ofNat']; omega

end Go.Proofs.YtnioagojiipjlaaGreat.Mt

/-
  Plain facts: what is put is got, and digits are read back. Nothing of the program stands here.
-/
namespace Go.Proofs.YtnioagojiipjlaaGreat.Mt

theorem be_get (n : Nat) : ∀ K j, j < K → (be n K)[j]? = some ((n / 256 ^ (K - 1 - j) % 256 : Nat) : Int)
  | K + 1, 0, _ => by simp [be]
  | K + 1, j + 1, h => by
    have ih := be_get n K j (by omega)
    simp only [be, List.getElem?_cons_succ, ih]
    rw [show K + 1 - 1 - (j + 1) = K - 1 - j by omega]

theorem gn_be (A B : List UInt8) (n K : Nat) : ∀ j, j ≤ K → gn (A ++ (strOfNums (be n K)).data.toList ++ B) A.length j = n / 256 ^ (K - j) % 256 ^ j
  | 0, _ => by simp [gn, Nat.mod_one]
  | j + 1, h => by
    have ih := gn_be A B n K j (by omega)
    have hb := be_get n K j (by omega)
    have hl : (strOfNums (be n K)).data.toList.length = K := by rw [strOfNums_data, List.length_map, be_length]
    have hg : (A ++ (strOfNums (be n K)).data.toList ++ B).getD (A.length + j) 0 = UInt8.ofNat (n / 256 ^ (K - 1 - j) % 256) := by
      simp only [List.getD]
      rw [List.getElem?_append_left (by rw [List.length_append, hl]; omega), List.getElem?_append_right (by omega), Nat.add_sub_cancel_left, strOfNums_data, List.getElem?_map, hb]
      show UInt8.ofNat (Int.toNat ((n / 256 ^ (K - 1 - j) % 256 : Nat) : Int)) = _
      rw [Int.toNat_natCast]
    simp only [gn, ih, hg]
    have e1 : K - j = (K - 1 - j) + 1 := by omega
    have e2 : K - (j + 1) = K - 1 - j := by omega
    rw [e1, e2, Nat.pow_succ, ← Nat.div_div_eq_div_mul, Nat.pow_succ, Nat.mul_comm (256 ^ j) 256, Nat.mod_mul]
    have : (UInt8.ofNat (n / 256 ^ (K - 1 - j) % 256)).toNat = n / 256 ^ (K - 1 - j) % 256 := by simp [UInt8.toNat_ofNat']
    rw [this]
    omega

theorem gn_put (A B : ByteArray) (n K : Nat) (h : n < 256 ^ K) : gn (A ++ strOfNums (be n K) ++ B).data.toList A.size K = n := by
  have := gn_be A.data.toList B.data.toList n K K (Nat.le_refl _)
  rw [Nat.sub_self, Nat.pow_zero, Nat.div_one, Nat.mod_eq_of_lt h] at this
  have e : (A ++ strOfNums (be n K) ++ B).data.toList = A.data.toList ++ (strOfNums (be n K)).data.toList ++ B.data.toList := by simp
  rw [e]
  exact this

theorem hex_get : ∀ (l : List UInt8) (k : Nat) (h : k < l.length), (hex l)[2 * k]? = some (dg (l[k].toNat / 16)) ∧ (hex l)[2 * k + 1]? = some (dg (l[k].toNat % 16))
  | c :: r, 0, _ => by simp [hex]
  | c :: r, k + 1, h => by
    have ih := hex_get r k (by simpa using h)
    rw [show 2 * (k + 1) = 2 * k + 1 + 1 by omega]
    simp only [hex, List.getElem?_cons_succ, List.getElem_cons_succ]
    exact ih

theorem hv_self (x : Nat) (h : x < 16) : hv (UInt8.ofNat (dg x).toNat).toNat = some x := by
  unfold dg
  split
  · have e : (UInt8.ofNat (((48 + x : Nat) : Int)).toNat).toNat = 48 + x := by
      rw [Int.toNat_natCast]; simp [UInt8.toNat_ofNat']; omega
    rw [e, hv, if_pos (by omega)]; congr 1; omega
  · have e : (UInt8.ofNat (((87 + x : Nat) : Int)).toNat).toNat = 87 + x := by
      rw [Int.toNat_natCast]; simp [UInt8.toNat_ofNat']; omega
    rw [e, hv, if_neg (by omega), if_pos (by omega)]; congr 1; omega

theorem hexs_length (l : List UInt8) : (strOfNums (hex l)).data.toList.length = 2 * l.length := by
  rw [strOfNums_data, List.length_map, hex_length]

theorem pv_hex (l : List UInt8) (k : Nat) (h : k < l.length) : pv (strOfNums (hex l)).data.toList k = some l[k].toNat := by
  obtain ⟨h1, h2⟩ := hex_get l k h
  have hlt := l[k].toNat_lt
  have g1 : (strOfNums (hex l)).data.toList.getD (2 * k) 0 = UInt8.ofNat (dg (l[k].toNat / 16)).toNat := by
    simp only [List.getD]; rw [strOfNums_data, List.getElem?_map, h1]; rfl
  have g2 : (strOfNums (hex l)).data.toList.getD (2 * k + 1) 0 = UInt8.ofNat (dg (l[k].toNat % 16)).toNat := by
    simp only [List.getD]; rw [strOfNums_data, List.getElem?_map, h2]; rfl
  rw [pv_some (x := l[k].toNat / 16) (y := l[k].toNat % 16) (by rw [g1]; exact hv_self _ (by omega)) (by rw [g2]; exact hv_self _ (by omega))]
  congr 1; omega

theorem uh_hex (l : List UInt8) : ∀ k, k ≤ l.length → uh (strOfNums (hex l)).data.toList k = some (l.take k)
  | 0, _ => by simp [uh]
  | k + 1, h => by
    rw [uh_some (uh_hex l k (by omega)) (pv_hex l k (by omega)), List.take_succ_eq_append_getElem (by omega)]
    congr 3
    exact u8_ext (by simp)

theorem unhex_hex (l : List UInt8) : unhex (strOfNums (hex l)).data.toList = (l, true) := by
  have hl := hexs_length l
  refine unhex_good (by omega) ?_
  rw [show (strOfNums (hex l)).data.toList.length / 2 = l.length by omega, uh_hex l _ (Nat.le_refl _), List.take_of_length_le (Nat.le_refl _)]

theorem pow_le56 (K : Nat) (h : K < 8) : (1 : Int) ≤ 2 ^ (8 * K) ∧ (2 : Int) ^ (8 * K) ≤ 72057594037927936 := by
  have : K = 0 ∨ K = 1 ∨ K = 2 ∨ K = 3 ∨ K = 4 ∨ K = 5 ∨ K = 6 ∨ K = 7 := by omega
  rcases this with rfl | rfl | rfl | rfl | rfl | rfl | rfl | rfl <;> simp
theorem wrap_mask (K : Nat) (h : K < 8) : IntKind.u64.wrap (IntKind.u64.wrap (2 ^ (8 * K)) - 1) = 2 ^ (8 * K) - 1 := by
  have hp := pow_le56 K h
  generalize (2 : Int) ^ (8 * K) = p at hp
  simp [IntKind.wrap, IntKind.bits, IntKind.signed]; omega
theorem mod_pow (m K : Nat) : (m : Int) % 2 ^ (8 * K) = ((m % 256 ^ K : Nat) : Int) := by
  have h : (2 : Nat) ^ (8 * K) = 256 ^ K := by rw [Nat.pow_mul]
  have h2 : (2 : Int) ^ (8 * K) = ((256 ^ K : Nat) : Int) := by rw [← h]; simp
  rw [h2]; omega

theorem mask (n : Int) (k : Nat) (hk : 8 * k ≤ 64) (h0 : 0 ≤ n) (h1 : n < 18446744073709551616) : bits .and .u64 n (2 ^ (8 * k) - 1) = n % 2 ^ (8 * k) := by
  refine bits_mask .u64 64 (by decide) (fun m ha hb => ?_) (8 * k) hk n h0 ?_
  · simp [IntKind.wrap, IntKind.bits, IntKind.signed]; omega
  · simpa using h1

end Go.Proofs.YtnioagojiipjlaaGreat.Mt

/-
  What the document's Put comes to.
-/
namespace Go.Proofs.YtnioagojiipjlaaGreat
open Go.RowKit

set_option maxHeartbeats 400000 in
set_option maxRecDepth 100000 in
theorem rput_yes (n size : Nat) (w : World) (hn : n < 18446744073709551616) (h2 : size ≤ 8) :
    Calls Tryz.prog 74 #[.int .u64 n, .int .i64 size] w fun e w' => e = .returned (.string (strOfNums (Mt.be n size))) ∧ Below w.heap.size w w' := by
  go_enter Tryz.func74, Tryz.ntmps74
  go_wp2
  go_loopw [0, 5, 6] (fun m s i wr => ∃ k : Nat, k ≤ size ∧ i = .int .i64 k ∧ m = .int .u64 ((n / 256 ^ k : Nat) : Int) ∧ s = .string (strOfNums (Mt.be n k)) ∧ Hid (Below w.heap.size w wr))
    (fun _ _ i _ => size - (intOf i).toNat)
  case atStart => exact ⟨0, Nat.zero_le _, rfl, by simp, rfl, Below.refl _ _⟩
  case round =>
    obtain ⟨k, hk, rfl, rfl, rfl, HB⟩ := hrel
    have hq : n / 256 ^ k < 18446744073709551616 := Nat.lt_of_le_of_lt (Nat.div_le_self _ _) hn
    obtain ⟨q, hqe⟩ : ∃ q, n / 256 ^ k = q := ⟨_, rfl⟩
    rw [hqe] at hq ⊢
    have HQ := Lib.hid hqe
    clear hqe
    by_cases hlt : k < size
    · have hcv := conv_one wr ((q : Int) % 256)
      have hsz : (strOfNums [(q : Int) % 256]).size + (strOfNums (Mt.be n k)).size ≤ 9223372036854775807 := by
        rw [strOfNums_size, strOfNums_size, Mt.be_length]; simp; omega
      have hadd := fun wx => run_string_add_sum (w := wx) (P := Tryz.prog) (strOfNums [(q : Int) % 256]) (strOfNums (Mt.be n k)) hsz
      clear hsz
      go_wp2
      go_roundw
      case rel =>
        refine ⟨k + 1, by omega, by go_num, ?_, ?_, HB.out.alloc HB.out.size _⟩
        · rw [← HQ.out, Nat.pow_succ, ← Nat.div_div_eq_div_mul]; rfl
        · rw [Mt.strOfNums_append, ← HQ.out]; rfl
      case measure => simp [intOf]; omega
    · go_wp2
      go_ret
      obtain rfl : k = size := by omega
      exact ⟨rfl, HB.out⟩


theorem rput_big (n size : Int) (w : World) (h : 8 < size) : Calls Tryz.prog 74 #[.int .u64 n, .int .i64 size] w fun e w' => e = .returned (.string ByteArray.empty) ∧ w = w' := by
  have h1 : 0 < size := by omega
  have h2 : decide (size ≤ 8) = false := by simp; omega
  go_enter Tryz.func74, Tryz.ntmps74
  go_wp2
  refine wp_loop_rounds 1 ?_
  rw [rounds_succ]
  go_wp2
  go_ret
  exact ⟨rfl, rfl⟩

theorem rput_neg (n size : Int) (w : World) (h : size ≤ 0) : Calls Tryz.prog 74 #[.int .u64 n, .int .i64 size] w fun e w' => e = .returned (.string ByteArray.empty) ∧ w = w' := by
  have h2 : decide (0 < size) = false := by simp; omega
  go_enter Tryz.func74, Tryz.ntmps74
  go_wp2
  refine wp_loop_rounds 1 ?_
  rw [rounds_succ]
  go_wp2
  go_ret
  exact ⟨rfl, rfl⟩

end Go.Proofs.YtnioagojiipjlaaGreat
