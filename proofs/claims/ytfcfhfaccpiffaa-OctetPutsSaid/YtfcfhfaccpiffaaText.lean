/-
  Plain facts on texts: small letters, and texts without blanks too many. Nothing of the program stands here.
-/
import Derived.Test.YtfcfhfaccpiffaaMath
namespace Go.Proofs.Ytfcfhfaccpiffaa.Mt

/-- The small letter of a capital one. -/
def smN (c : Nat) : Nat := if 65 ≤ c ∧ c ≤ 90 then c + 32 else c
def sm (c : UInt8) : UInt8 := UInt8.ofNat (smN c.toNat)

theorem smN_lt (c : UInt8) : smN c.toNat < 256 := by have := c.toNat_lt; unfold smN; split <;> omega
theorem sm_toNat (c : UInt8) : (sm c).toNat = smN c.toNat := by
  have := smN_lt c
  unfold sm
  simp [UInt8.toNat_ofNat']; omega
theorem u8_ext {a b : UInt8} (h : a.toNat = b.toNat) : a = b := UInt8.toNat_inj.1 h
theorem sm_sm (c : UInt8) : sm (sm c) = sm c := by
  apply u8_ext; rw [sm_toNat, sm_toNat]; unfold smN
  by_cases h : 65 ≤ c.toNat ∧ c.toNat ≤ 90
  · rw [if_pos h, if_neg (by omega)]
  · rw [if_neg h, if_neg h]
theorem sm_blank (c : UInt8) : sm c = 32 ↔ c = 32 := by
  constructor
  · intro h
    have h1 : (sm c).toNat = 32 := by rw [h]; rfl
    rw [sm_toNat] at h1
    apply u8_ext; unfold smN at h1
    show c.toNat = 32
    split at h1 <;> omega
  · rintro rfl; rfl
theorem eq32 (c : UInt8) : c = 32 ↔ c.toNat = 32 := ⟨fun h => by rw [h]; rfl, fun h => u8_ext h⟩

/-- What lies in a slice of bytes. -/
def cs (l : List UInt8) : List Value := l.map fun c => Value.int .u8 c.toNat
theorem cs_length (l : List UInt8) : (cs l).length = l.length := by simp [cs]
theorem cs_append (a b : List UInt8) : cs (a ++ b) = cs a ++ cs b := by simp [cs]
theorem cs_take (l : List UInt8) (n : Nat) : (cs l).take n = cs (l.take n) := by simp [cs]

/-- A text of bytes. -/
def str (l : List UInt8) : ByteArray := ⟨l.toArray⟩
theorem str_size (l : List UInt8) : (str l).size = l.length := by simp [str, ByteArray.size]
theorem str_data (l : List UInt8) : (str l).data.toList = l := rfl
theorem str_of (s : ByteArray) : str s.data.toList = s := rfl
theorem str_nums (l : List UInt8) : strOfNums (l.map fun c => (c.toNat : Int)) = str l := by
  apply ByteArray.ext
  simp [strOfNums, str, Function.comp_def]

theorem fold_cell (s : ByteArray) (k : Nat) (h : k < s.size) : (cs ((s.data.toList.map sm).take k ++ List.replicate (s.size - k) 0))[k]? = some (.int .u8 0) := by
  have e : s.size - k = (s.size - k - 1) + 1 := by omega
  have hl : ((s.data.toList.map sm).take k).length = k := by simp; omega
  rw [cs_append, List.getElem?_append_right (by rw [cs_length, hl]; exact Nat.le_refl _), cs_length, hl, Nat.sub_self, e, List.replicate_succ]
  rfl
theorem fold_set (s : ByteArray) (k : Nat) (h : k < s.size) :
    (cs ((s.data.toList.map sm).take k ++ List.replicate (s.size - k) 0)).set k (.int .u8 (sm s[k]).toNat) = cs ((s.data.toList.map sm).take (k + 1) ++ List.replicate (s.size - (k + 1)) 0) := by
  have e : s.size - k = (s.size - (k + 1)) + 1 := by omega
  have hl : ((s.data.toList.map sm).take k).length = k := by simp; omega
  rw [cs_append, List.set_append_right _ _ (by rw [cs_length, hl]; exact Nat.le_refl _), cs_length, hl, Nat.sub_self, e, List.replicate_succ]
  have ht : (s.data.toList.map sm).take (k + 1) = (s.data.toList.map sm).take k ++ [sm s[k]] := by
    rw [← List.map_take, take_snoc s k h, List.map_append, ← List.map_take]; rfl
  rw [ht, List.append_assoc, cs_append]
  simp [cs]

def endB (o : List UInt8) : Bool := o.isEmpty || o.getLast? == some 32

/-- One byte more. -/
def step (o : List UInt8) (c : UInt8) : List UInt8 := if c = 32 ∧ endB o = true then o else o ++ [sm c]
def run (l : List UInt8) : List UInt8 := l.foldl step []
def prep (l : List UInt8) : List UInt8 := if (run l).getLast? = some 32 then (run l).dropLast else run l

theorem run_snoc (l : List UInt8) (c : UInt8) : run (l ++ [c]) = step (run l) c := by simp [run]
theorem snoc_ind {α : Type} {P : List α → Prop} (h0 : P []) (h1 : ∀ l a, P l → P (l ++ [a])) (l : List α) : P l := by
  have h : ∀ l : List α, P l.reverse := by
    intro l
    induction l with
    | nil => exact h0
    | cons a r ih => rw [List.reverse_cons]; exact h1 _ _ ih
  have := h l.reverse
  rwa [List.reverse_reverse] at this
theorem run_length (l : List UInt8) : (run l).length ≤ l.length := by
  refine snoc_ind (P := fun l => (run l).length ≤ l.length) (by simp [run]) (fun l c ih => ?_) l
  show (run (l ++ [c])).length ≤ _
  rw [run_snoc]; unfold step
  split <;> simp <;> omega

end Go.Proofs.Ytfcfhfaccpiffaa.Mt
