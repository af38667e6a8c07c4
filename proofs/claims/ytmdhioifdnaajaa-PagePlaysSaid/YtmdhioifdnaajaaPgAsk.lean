/-
  What a control says, in plain lists: the program's way and the document's.
-/
import Derived.Test.YtmdhioifdnaajaaPgTlv
import Derived.Test.YtmdhioifdnaajaaTvNum
set_option linter.unusedVariables false
set_option linter.unusedSimpArgs false
namespace Go.Proofs.Ytmdhioifdnaajaa.Mt
/-- The element that says a size and a cookie. -/
def ansN (size : Int) (c : List UInt8) : Nd := .mk 48 [] [.mk 2 (intL size) [], .mk 4 c []]
def putD (n : Nd) : List UInt8 := match putL 64 n with
  | .ok s => s
  | .error _ => []
def ansL (size : Int) (c : List UInt8) : List UInt8 := if 0 ≤ size ∧ size ≤ 2147483647 then putD (ansN size c) else []
/-- What an element says, by the program. -/
def askPg (n : Nd) : Option (Int × List UInt8) := match n.kids with
  | [a, b] => if n.tag = 48 ∧ a.tag = 2 ∧ b.tag = 4 ∧ (numL a.data).2 = true ∧ 0 ≤ (numL a.data).1 ∧ (numL a.data).1 ≤ 2147483647 then some ((numL a.data).1, b.data) else none
  | _ => none
/-- What an element says, by the document. -/
def raskPg (n : Nd) : Option (Int × List UInt8) := match n.kids with
  | [a, b] => if (numL a.data).2 = true ∧ 0 ≤ (numL a.data).1 ∧ (numL a.data).1 ≤ 2147483647 ∧ ansL (numL a.data).1 b.data = putD n then some ((numL a.data).1, b.data) else none
  | _ => none
theorem askPg_mk (t ta tb : Int) (data da db : List UInt8) (ka kb : List Nd) : askPg (.mk t data [.mk ta da ka, .mk tb db kb]) = if t = 48 ∧ ta = 2 ∧ tb = 4 ∧ (numL da).2 = true ∧ 0 ≤ (numL da).1 ∧ (numL da).1 ≤ 2147483647 then some ((numL da).1, db) else none := rfl
theorem raskPg_mk (t ta tb : Int) (data da db : List UInt8) (ka kb : List Nd) : raskPg (.mk t data [.mk ta da ka, .mk tb db kb]) = if (numL da).2 = true ∧ 0 ≤ (numL da).1 ∧ (numL da).1 ≤ 2147483647 ∧ ansL (numL da).1 db = putD (.mk t data [.mk ta da ka, .mk tb db kb]) then some ((numL da).1, db) else none := rfl
theorem numL_int {l : List UInt8} (h : (numL l).2 = true) : intL (numL l).1 = l := by
  unfold numL at h ⊢
  split at h
  · rename_i h1
    rw [if_pos h1]; exact h1.2.2
  · cases h
theorem leaf_of {d : Nat} {t : Int} {data s : List UInt8} {kids : List Nd} (h : putL d (.mk t data kids) = .ok s) (hc : ¬ cons t) : kids = [] := by
  cases d with
  | zero => simp [putL] at h
  | succ d =>
    obtain ⟨_, _, _, _, _, _, hk, _, _⟩ := putL_parts h
    exact hk hc
theorem putAll_mem {f : Nd → Except Nat (List UInt8)} : ∀ {ks : List Nd} {bs : List UInt8}, putAll f ks = .ok bs → ∀ n ∈ ks, ∃ s, f n = .ok s
  | [], _, _, n, hn => by cases hn
  | k :: r, bs, h, n, hn => by
    simp only [putAll] at h
    split at h
    · cases h
    · rename_i s hs
      split at h
      · cases h
      · rename_i t ht
        rcases List.mem_cons.1 hn with rfl | hn
        · exact ⟨s, hs⟩
        · exact putAll_mem ht n hn
theorem ask_same {l : List UInt8} {n : Nd} (h : parseL 64 l = .ok (n, [])) : askPg n = raskPg n := by
  obtain ⟨s, hs, -⟩ := put_parse 64 l n [] h
  have hd : putD n = s := by unfold putD; rw [hs]
  obtain ⟨t, data, kids⟩ := n
  obtain ⟨bs, hbs, h0, h255, h31, hc, hk, hl, he⟩ := putL_parts hs
  match kids, hbs, hk with
  | [], _, _ => rfl
  | [_], _, _ => rfl
  | _ :: _ :: _ :: _, _, _ => rfl
  | [.mk ta da ka, .mk tb db kb], hbs, hk =>
    rw [askPg_mk, raskPg_mk, hd]
    by_cases hn : (numL da).2 = true ∧ 0 ≤ (numL da).1 ∧ (numL da).1 ≤ 2147483647
    · obtain ⟨hn1, hn2, hn3⟩ := hn
      have hint := numL_int hn1
      by_cases ht : t = 48 ∧ ta = 2 ∧ tb = 4
      · obtain ⟨ht1, ht2, ht3⟩ := ht
        subst ht1 ht2 ht3
        obtain ⟨sa, hsa⟩ := putAll_mem hbs (.mk 2 da ka) (by simp)
        obtain ⟨sb, hsb⟩ := putAll_mem hbs (.mk 4 db kb) (by simp)
        have e1 := leaf_of hsa (by decide)
        have e2 := leaf_of hsb (by decide)
        have e3 := hc (by decide)
        subst e1 e2 e3
        have : ansL (numL da).1 db = s := by
          unfold ansL
          rw [if_pos ⟨hn2, hn3⟩]
          unfold ansN
          rw [hint]
          exact hd
        simp [hn1, hn2, hn3, this]
      · rw [if_neg (fun h => ht ⟨h.1, h.2.1, h.2.2.1⟩), if_neg]
        rintro ⟨-, -, -, h4⟩
        unfold ansL at h4
        rw [if_pos ⟨hn2, hn3⟩] at h4
        unfold putD at h4
        have hne := putL_ne hs
        split at h4
        · rename_i s2 hs2
          subst h4
          have p1 := parse_put 64 _ _ [] hs2
          have p2 := parse_put 64 _ _ [] hs
          rw [p1] at p2
          unfold ansN at p2
          simp only [Except.ok.injEq, Prod.mk.injEq, and_true, Nd.mk.injEq, List.cons.injEq] at p2
          exact ht ⟨p2.1.symm, p2.2.2.1.1.symm, p2.2.2.2.1.symm⟩
        · exact hne h4.symm
    · rw [if_neg (fun h => hn ⟨h.2.2.2.1, h.2.2.2.2.1, h.2.2.2.2.2⟩), if_neg (fun h => hn ⟨h.1, h.2.1, h.2.2.1⟩)]
theorem intL_small {n : Int} (h0 : 0 ≤ n) (h1 : n ≤ 2147483647) : (intL n).length ≤ 8 := by rw [intL_length]; exact (isz_le n).2
theorem ans_put {size : Int} {c : List UInt8} (hs : 0 ≤ size ∧ size ≤ 2147483647) (hc : c.length ≤ 1000000) : ∃ s, putL 64 (ansN size c) = .ok s ∧ ansL size c = s ∧ s.length ≤ c.length + 100 := by
  have hi := intL_small hs.1 hs.2
  have e1 : putL 63 (.mk 2 (intL size) []) = .ok (frontL 2 (intL size).length ++ intL size) := by
    simp only [putL]
    rw [if_neg (by unfold badTag; omega), if_neg (by simp [show ¬ cons 2 by decide])]
    simp only [putAll]
    rw [if_neg (by simp; omega)]
    simp
  have e2 : putL 63 (.mk 4 c []) = .ok (frontL 4 c.length ++ c) := by
    simp only [putL]
    rw [if_neg (by unfold badTag; omega), if_neg (by simp [show ¬ cons 4 by decide])]
    simp only [putAll]
    rw [if_neg (by simp; omega)]
    simp
  have f1 := (frontL_length 2 (intL size).length).1
  have f2 := (frontL_length 4 c.length).1
  obtain ⟨b, hb⟩ : ∃ b, (frontL 2 (intL size).length ++ intL size) ++ (frontL 4 c.length ++ c) = b := ⟨_, rfl⟩
  have hbl : b.length ≤ c.length + 18 := by rw [← hb]; simp only [List.length_append]; omega
  have e3 : putL 64 (ansN size c) = .ok (frontL 48 b.length ++ b) := by
    unfold ansN
    rw [show (64 : Nat) = 63 + 1 from rfl, putL]
    rw [if_neg (by unfold badTag; omega), if_neg (by simp [show cons 48 by decide])]
    simp only [putAll, e1, e2]
    simp only [List.append_nil, hb]
    rw [if_neg (by simp; omega)]
    simp
  have f3 := (frontL_length 48 b.length).1
  refine ⟨_, e3, ?_, by rw [List.length_append]; omega⟩
  unfold ansL putD
  rw [if_pos hs, e3]
theorem ask_ans {size : Int} {c : List UInt8} (hs : 0 ≤ size ∧ size ≤ 2147483647) : askPg (ansN size c) = some (size, c) := by
  have h := num_int size (by omega) (by omega)
  unfold ansN
  rw [askPg_mk, h]
  simp [hs.1, hs.2]
/-- A number's eight bytes are its own. -/
theorem ck_inj {n m : Nat} (hn : n < 18446744073709551616) (hm : m < 18446744073709551616) (h : strOfNums (be n 8) = strOfNums (be m 8)) : n = m := by
  rw [str_be, str_be] at h
  have h2 : beU n 8 = beU m 8 := by
    have := congrArg (fun s : ByteArray => s.data.toList) h
    simpa [str] using this
  have h3 := congrArg (fun l => gn l 0 8) h2
  simp only [gn_beU _ 8 8 (Nat.le_refl _)] at h3
  simp at h3
  omega
end Go.Proofs.Ytmdhioifdnaajaa.Mt
