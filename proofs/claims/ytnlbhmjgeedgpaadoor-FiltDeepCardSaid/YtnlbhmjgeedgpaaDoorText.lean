/-
  Plain facts on texts: small letters, and texts without blanks too many. Nothing of the program stands here.
-/
import Derived.Test.YtnlbhmjgeedgpaaDoorMath
set_option linter.unusedVariables false
set_option linter.unusedSimpArgs false
namespace Go.Proofs.YtnlbhmjgeedgpaaDoor.Mt

/-- The small letter of a capital one. -/
def smN (c : Nat) : Nat := if 65 ≤ c ∧ c ≤ 90 then c + 32 else c
def sm (c : UInt8) : UInt8 := UInt8.ofNat (smN c.toNat)

theorem smN_lt (c : UInt8) : smN c.toNat < 256 := by have := c.toNat_lt; unfold smN; split <;> omega
theorem sm_toNat (c : UInt8) : (sm c).toNat = smN c.toNat := by
  have := smN_lt c
  unfold sm
  simp [UInt8.toNat_ofNat']; omega
theorem u8_ext {a b : UInt8} (h : a.toNat = b.toNat) : a = b := UInt8.toNat_inj.1 h
theorem sm_sm (c : UInt8) : sm (sm c) = sm c := by
  apply u8_ext; rw [sm_toNat, sm_toNat]; unfold smN
  by_cases h : 65 ≤ c.toNat ∧ c.toNat ≤ 90
  · rw [if_pos h, if_neg (by omega)]
  · rw [if_neg h, if_neg h]
theorem sm_blank (c : UInt8) : sm c = 32 ↔ c = 32 := by
  constructor
  · intro h
    have h1 : (sm c).toNat = 32 := by rw [h]; rfl
    rw [sm_toNat] at h1
    apply u8_ext; unfold smN at h1
    show c.toNat = 32
    split at h1 <;> omega
  · rintro rfl; rfl
theorem eq32 (c : UInt8) : c = 32 ↔ c.toNat = 32 := ⟨fun h => by rw [h]; rfl, fun h => u8_ext h⟩

/-- What lies in a slice of bytes. -/
def cs (l : List UInt8) : List Value := l.map fun c => Value.int .u8 c.toNat
theorem cs_length (l : List UInt8) : (cs l).length = l.length := by simp [cs]
theorem cs_append (a b : List UInt8) : cs (a ++ b) = cs a ++ cs b := by simp [cs]
theorem cs_take (l : List UInt8) (n : Nat) : (cs l).take n = cs (l.take n) := by simp [cs]

/-- A text of bytes. -/
def str (l : List UInt8) : ByteArray := ⟨l.toArray⟩
theorem str_size (l : List UInt8) : (str l).size = l.length := by simp [str, ByteArray.size]
theorem str_data (l : List UInt8) : (str l).data.toList = l := rfl
theorem str_of (s : ByteArray) : str s.data.toList = s := rfl
theorem str_nums (l : List UInt8) : strOfNums (l.map fun c => (c.toNat : Int)) = str l := by
  apply ByteArray.ext
  simp [strOfNums, str, Function.comp_def]

theorem fold_cell (s : ByteArray) (k : Nat) (h : k < s.size) : (cs ((s.data.toList.map sm).take k ++ List.replicate (s.size - k) 0))[k]? = some (.int .u8 0) := by
  have e : s.size - k = (s.size - k - 1) + 1 := by omega
  have hl : ((s.data.toList.map sm).take k).length = k := by simp; omega
  rw [cs_append, List.getElem?_append_right (by rw [cs_length, hl]; exact Nat.le_refl _), cs_length, hl, Nat.sub_self, e, List.replicate_succ]
  rfl
theorem fold_set (s : ByteArray) (k : Nat) (h : k < s.size) :
    (cs ((s.data.toList.map sm).take k ++ List.replicate (s.size - k) 0)).set k (.int .u8 (sm s[k]).toNat) = cs ((s.data.toList.map sm).take (k + 1) ++ List.replicate (s.size - (k + 1)) 0) := by
  have e : s.size - k = (s.size - (k + 1)) + 1 := by omega
  have hl : ((s.data.toList.map sm).take k).length = k := by simp; omega
  rw [cs_append, List.set_append_right _ _ (by rw [cs_length, hl]; exact Nat.le_refl _), cs_length, hl, Nat.sub_self, e, List.replicate_succ]
  have ht : (s.data.toList.map sm).take (k + 1) = (s.data.toList.map sm).take k ++ [sm s[k]] := by
    rw [← List.map_take, take_snoc s k h, List.map_append, ← List.map_take]; rfl
  rw [ht, List.append_assoc, cs_append]
  simp [cs]

def endB (o : List UInt8) : Bool := o.isEmpty || o.getLast? == some 32

/-- One byte more. -/
def step (o : List UInt8) (c : UInt8) : List UInt8 := if c = 32 ∧ endB o = true then o else o ++ [sm c]
def run (l : List UInt8) : List UInt8 := l.foldl step []
def prep (l : List UInt8) : List UInt8 := if (run l).getLast? = some 32 then (run l).dropLast else run l

theorem run_snoc (l : List UInt8) (c : UInt8) : run (l ++ [c]) = step (run l) c := by simp [run]
theorem snoc_ind {α : Type} {P : List α → Prop} (h0 : P []) (h1 : ∀ l a, P l → P (l ++ [a])) (l : List α) : P l := by
  have h : ∀ l : List α, P l.reverse := by
    intro l
    induction l with
    | nil => exact h0
    | cons a r ih => rw [List.reverse_cons]; exact h1 _ _ ih
  have := h l.reverse
  rwa [List.reverse_reverse] at this
theorem run_length (l : List UInt8) : (run l).length ≤ l.length := by
  refine snoc_ind (P := fun l => (run l).length ≤ l.length) (by simp [run]) (fun l c ih => ?_) l
  show (run (l ++ [c])).length ≤ _
  rw [run_snoc]; unfold step
  split <;> simp <;> omega

/-- Whether something else than blanks stands from a place on. -/
def later (t : List UInt8) (i : Nat) : Bool := (t.drop i).any fun c => c != 32

theorem later_true (t : List UInt8) (i j : Nat) (hij : i ≤ j) (hj : j < t.length) (h : t.getD j 0 ≠ 32) : later t i = true := by
  unfold later
  rw [List.any_eq_true]
  refine ⟨t.getD j 0, ?_, by simpa using h⟩
  rw [List.mem_iff_getElem]
  refine ⟨j - i, by simp; omega, ?_⟩
  simp [List.getD, List.getElem?_eq_getElem hj, show i + (j - i) = j by omega]

theorem later_false (t : List UInt8) (i : Nat) (h : ∀ m, i ≤ m → m < t.length → t.getD m 0 = 32) : later t i = false := by
  unfold later
  rw [List.any_eq_false]
  intro c hc
  rw [List.mem_iff_getElem] at hc
  obtain ⟨m, hm, rfl⟩ := hc
  simp at hm
  have := h (i + m) (by omega) (by omega)
  simp [List.getD, List.getElem?_eq_getElem (show i + m < t.length by omega)] at this
  simp [this]

/-- One place more, as the document has it. -/
def rstep (t : List UInt8) (i : Nat) (b : List UInt8) : List UInt8 :=
  if later t i = false ∨ (t.getD i 0 = 32 ∧ (b = [] ∨ t.getD (i - 1) 0 = 32)) then b else b ++ [t.getD i 0]
def rb (t : List UInt8) : Nat → List UInt8
  | 0 => []
  | i + 1 => rstep t i (rb t i)
theorem rb_length (t : List UInt8) : ∀ i, (rb t i).length ≤ i
  | 0 => by simp [rb]
  | i + 1 => by
    have := rb_length t i
    simp only [rb, rstep]
    split <;> simp <;> omega

/-- The number whose bytes stand from a place on, the highest first. -/
def gn (l : List UInt8) (a : Nat) : Nat → Nat
  | 0 => 0
  | k + 1 => 256 * gn l a k + (l.getD (a + k) 0).toNat

theorem gn_lt (l : List UInt8) (a : Nat) : ∀ k, gn l a k < 256 ^ k
  | 0 => by simp [gn]
  | k + 1 => by
    have h := gn_lt l a k
    have hc := (l.getD (a + k) 0).toNat_lt
    rw [Nat.pow_succ]
    simp only [gn]
    omega
theorem gn_lt56 (l : List UInt8) (a k : Nat) (hk : k < 8) : gn l a k < 72057594037927936 := by
  have h := gn_lt l a k
  have h2 : (256 : Nat) ^ k ≤ 256 ^ 7 := Nat.pow_le_pow_right (by decide) (by omega)
  have h3 : (256 : Nat) ^ 7 = 72057594037927936 := by decide
  omega

theorem or_byte (x c : Int) (h0 : 0 ≤ x) (h1 : x < 72057594037927936) (h2 : 0 ≤ c) (h3 : c < 256) : bits .or .u64 (x * 256) c = x * 256 + c := by
  refine bits_join .u64 64 (by decide) (fun n ha hb => ?_) 8 (x * 256) c (by omega) (by omega) ?_ h2 (by simpa using h3) ?_
  · simp [IntKind.wrap, IntKind.bits, IntKind.signed]; omega
  · simp; omega
  · simp; omega

end Go.Proofs.YtnlbhmjgeedgpaaDoor.Mt
