/-
  The rule of the text before, where the others may make new blocks and what their slots hold may speak of them.
-/
import Derived.Test.YtpdionmecflibaaDoorLast
import Derived.Laws.AppendOwn
namespace Go.Proofs.YtpdionmecflibaaDoor
open Go.RowKit

theorem wpAny_last2 {P : Program} {ops : Array Oper} {Q : Exit → Act → World → Prop} (fr : (Nat → Value) → Act) (Good : Nat → Value → World → Prop) (Pre Post : World → Prop)
    (hback : ∀ i o, ops[i]? = some o → ∀ e ∈ o.after, Region.binds .any e = true → e.on < i)
    (hput : ∀ i o, ops[i]? = some o → ∀ v x, (fr v).put o.dst x = fr (turn v i x))
    (mono : ∀ i x w w', Below w.heap.size w w' → Good i x w → Good i x w')
    (hused : ∀ i, i + 1 < ops.size → ∃ (j : Nat) (o : Oper), ops[j]? = some o ∧ ∃ e ∈ o.after, Region.binds .any e = true ∧ e.on = i)
    (step : ∀ i o, ops[i]? = some o → i + 1 < ops.size → ∀ v w, Pre w → (∀ e ∈ o.after, Region.binds .any e = true → Good e.on (v e.on) w) →
      wpOp P ops Q i (fun a' w' => ∃ x, a' = (fr v).put o.dst x ∧ Good i x w' ∧ Below w.heap.size w w' ∧ Pre w') (fr v) w)
    (last : ∀ o, ops[ops.size - 1]? = some o → ∀ v w, Pre w → (∀ i, i + 1 < ops.size → Good i (v i) w) →
      wpOp P ops Q (ops.size - 1) (fun a' w' => ∃ x, a' = (fr v).put o.dst x ∧ Post w') (fr v) w)
    (fin : ∀ v w, Post w → Q .normal (fr v) w) (hne : 0 < ops.size) :
    ∀ (fuel : Nat) (listed : Array Bool) (v : Nat → Value) (w : World), listed.size = ops.size → cnt listed.toList = fuel →
      (∀ j o, ops[j]? = some o → listed.getD j false = true → ∀ e ∈ o.after, Region.binds .any e = true → listed.getD e.on false = true) →
      (listed.getD (ops.size - 1) false = true → Post w) → (listed.getD (ops.size - 1) false = false → Pre w) → (listed.getD (ops.size - 1) false = false → ∀ i, i + 1 < ops.size → listed.getD i false = true → Good i (v i) w) →
      wpAny P .any ops Q fuel listed (fr v) w := by
  have allOf : ∀ (listed : Array Bool), listed.size = ops.size → cnt listed.toList = 0 → ∀ i, i < ops.size → listed.getD i false = true := by
    intro listed hs h0 i hi
    have h := cnt_zero listed.toList h0 i
    have hl : i < listed.toList.length := by simpa [hs] using hi
    simp only [List.getD, List.getElem?_eq_getElem hl, Option.getD_some] at h
    simp [Array.getD, show i < listed.size by omega]
    simpa using h
  -- what is not listed keeps the last one from being listed
  have up : ∀ (listed : Array Bool), (∀ j o, ops[j]? = some o → listed.getD j false = true → ∀ e ∈ o.after, Region.binds .any e = true → listed.getD e.on false = true) →
      ∀ (d i : Nat), ops.size - 1 - i = d → i < ops.size → listed.getD i false = false → listed.getD (ops.size - 1) false = false := by
    intro listed hcl d
    induction d using Nat.strongRecOn with
    | ind d ih =>
      intro i hd hi hun
      by_cases hl : i + 1 < ops.size
      · obtain ⟨j, o, ho, e, he, hb, rfl⟩ := hused i hl
        have hj : j < ops.size := by
          rcases Nat.lt_or_ge j ops.size with h | h
          · exact h
          · simp [Array.getElem?_eq_none h] at ho
        have hlt := hback j o ho e he hb
        have hju : listed.getD j false = false := by
          cases hc : listed.getD j false with
          | false => rfl
          | true =>
            have := hcl j o ho hc e he hb
            rw [hun] at this; cases this
        exact ih (ops.size - 1 - j) (by omega) j rfl hj hju
      · have : i = ops.size - 1 := by omega
        subst this
        exact hun
  -- where the last one is ready, all others are listed
  have down : ∀ (listed : Array Bool), (∀ j o, ops[j]? = some o → listed.getD j false = true → ∀ e ∈ o.after, Region.binds .any e = true → listed.getD e.on false = true) →
      (∀ o, ops[ops.size - 1]? = some o → ∀ e ∈ o.after, Region.binds .any e = true → listed.getD e.on false = true) →
      ∀ (d i : Nat), ops.size - 1 - i = d → i + 1 < ops.size → listed.getD i false = true := by
    intro listed hcl hlast d
    induction d using Nat.strongRecOn with
    | ind d ih =>
      intro i hd hi
      obtain ⟨j, o, ho, e, he, hb, rfl⟩ := hused i hi
      have hj : j < ops.size := by
        rcases Nat.lt_or_ge j ops.size with h | h
        · exact h
        · simp [Array.getElem?_eq_none h] at ho
      have hlt := hback j o ho e he hb
      by_cases hjl : j + 1 < ops.size
      · exact hcl j o ho (ih (ops.size - 1 - j) (by omega) j rfl hjl) e he hb
      · have : j = ops.size - 1 := by omega
        subst this
        exact hlast o ho e he hb
  intro fuel
  induction fuel with
  | zero =>
    intro listed v w hs hc hcl hpost hpre hg
    refine ⟨?_, fin v w (hpost (allOf listed hs hc _ (by omega)))⟩
    simp only [Region.ready, List.filter_eq_nil_iff, List.mem_range]
    intro i hi
    have h := allOf listed hs hc i hi
    have : listed.getD i true = true := by
      simp [Array.getD, show i < listed.size by omega] at h ⊢
      exact h
    simp [this]
  | succ fuel ih =>
    intro listed v w hs hc hcl hpost hpre hg
    refine ⟨fun hnil => ?_, fun i hi => ?_⟩
    · exfalso
      obtain ⟨i, h1, h2⟩ := cnt_some listed.toList (by omega)
      have hil : i < listed.size := by
        rcases Nat.lt_or_ge i listed.size with h | h
        · exact h
        · simp [Array.getElem?_eq_none h] at h1
      have hio : i < ops.size := by omega
      have hmem : i ∈ Region.ready .any ops listed := by
        simp only [Region.ready, List.mem_filter, List.mem_range]
        refine ⟨hio, ?_⟩
        have hgi : listed.getD i true = false := by
          simp [hil] at h1
          simp [Array.getD, hil, h1]
        have ho : ops[i]? = some ops[i] := Array.getElem?_eq_getElem hio
        rw [hgi, ho]
        simp only [Bool.not_false, Option.map_some, Option.getD_some, Bool.true_and, Array.all_eq_true']
        intro e he
        cases hb : Region.binds .any e with
        | false => rfl
        | true =>
          have hlt := hback i _ ho e he hb
          have h3 := h2 e.on hlt
          have hel : e.on < listed.size := by omega
          simp [hel] at h3
          simp [Array.getD, hel, h3]
      rw [hnil] at hmem
      cases hmem
    · simp only [Region.ready, List.mem_filter, List.mem_range] at hi
      obtain ⟨hio, hcond⟩ := hi
      have ho : ops[i]? = some ops[i] := Array.getElem?_eq_getElem hio
      rw [ho] at hcond
      simp only [Option.map_some, Option.getD_some, Bool.and_eq_true, Bool.not_eq_true', Array.all_eq_true'] at hcond
      obtain ⟨hun, hdeps⟩ := hcond
      have hil : i < listed.size := by omega
      have hun' : listed.getD i false = false := by
        simp [Array.getD, hil] at hun ⊢
        exact hun
      have hf : listed.toList[i]? = some false := by
        simp [Array.getD, hil] at hun
        simp [hil, hun]
      have hpre' := hpre (up listed hcl _ i rfl hio hun')
      have hg := hg (up listed hcl _ i rfl hio hun')
      have hd : ∀ e ∈ ops[i].after, Region.binds .any e = true → listed.getD e.on false = true := by
        intro e he hb
        have h := hdeps e he
        rw [hb] at h
        simpa using h
      have hset : ∀ j, (listed.setIfInBounds i true).getD j false = true → j = i ∨ listed.getD j false = true := by
        intro j hj
        by_cases hji : j = i
        · exact .inl hji
        · right
          have hjl : j < listed.size := by
            rcases Nat.lt_or_ge j listed.size with h | h
            · exact h
            · simp [Array.getD, show ¬ j < listed.size by omega] at hj
          simp [Array.getD, hjl, Ne.symm hji] at hj ⊢
          exact hj
      have hup : ∀ j, listed.getD j false = true → (listed.setIfInBounds i true).getD j false = true := by
        intro j hj
        have hjl : j < listed.size := by
          rcases Nat.lt_or_ge j listed.size with h | h
          · exact h
          · simp [Array.getD, show ¬ j < listed.size by omega] at hj
        by_cases hji : j = i
        · subst hji; simp [Array.getD, hjl]
        · simp [Array.getD, hjl, Ne.symm hji] at hj ⊢
          exact hj
      have hii : (listed.setIfInBounds i true).getD i false = true := by simp [Array.getD, hil]
      have hcl' : ∀ j o, ops[j]? = some o → (listed.setIfInBounds i true).getD j false = true → ∀ e ∈ o.after, Region.binds .any e = true → (listed.setIfInBounds i true).getD e.on false = true := by
        intro j o hoj hj e he hb
        rcases hset j hj with rfl | hj'
        · rw [ho] at hoj
          obtain rfl := Option.some.inj hoj
          exact hup _ (hd e he hb)
        · exact hup _ (hcl j o hoj hj' e he hb)
      have hcnt : cnt (listed.setIfInBounds i true).toList = fuel := by
        have := cnt_set listed.toList i hf
        rw [Array.toList_setIfInBounds]; omega
      by_cases hl : i + 1 < ops.size
      · refine wpOp_mono ?_ (step i _ ho hl v w hpre' fun e he hb => ?_)
        · rintro a' w' ⟨x, rfl, hx, hbel, hw'⟩
          rw [hput i _ ho]
          have hk : (listed.setIfInBounds i true).getD (ops.size - 1) false = false := by
            cases hkk : (listed.setIfInBounds i true).getD (ops.size - 1) false with
            | false => rfl
            | true =>
              rcases hset _ hkk with h | h
              · omega
              · rw [up listed hcl _ i rfl hio hun'] at h; cases h
          refine ih _ _ _ (by simpa using hs) hcnt hcl' (fun h => by rw [hk] at h; cases h) (fun _ => hw') ?_
          intro _ j hjl hj
          unfold turn
          by_cases hji : j = i
          · subst hji; simpa using hx
          · rw [if_neg hji]
            rcases hset j hj with h | h
            · exact absurd h hji
            · exact mono j _ w w' hbel (hg j hjl h)
        · have hlt := hback i _ ho e he hb
          exact hg e.on (by omega) (hd e he hb)
      · obtain rfl : i = ops.size - 1 := by omega
        have hall : ∀ j, j + 1 < ops.size → listed.getD j false = true := fun j hj => down listed hcl (fun o hoo e he hb => by
          rw [ho] at hoo
          obtain rfl := Option.some.inj hoo
          exact hd e he hb) _ j rfl hj
        refine wpOp_mono ?_ (last _ ho v w hpre' fun j hj => hg j hj (hall j hj))
        rintro a' w' ⟨x, rfl, hw'⟩
        rw [hput _ _ ho]
        refine ih _ _ _ (by simpa using hs) hcnt hcl' (fun _ => hw') (fun h => by rw [hii] at h; cases h) (fun h => by rw [hii] at h; cases h)

/-- THE RULE. -/
theorem wp_region_last2 {P : Program} {ops : Array Oper} {Q : Exit → Act → World → Prop} {id : Nat} (hm : P.follows .mixedOrders = true)
    (fr : (Nat → Value) → Act) (Good : Nat → Value → World → Prop) (Pre Post : World → Prop) (v0 : Nat → Value) (w : World)
    (mono : ∀ i x w w', Below w.heap.size w w' → Good i x w → Good i x w') (hback : backB ops = true) (hused : usedB ops = true) (hne : 0 < ops.size)
    (hput : ∀ i o, ops[i]? = some o → ∀ v x, (fr v).put o.dst x = fr (turn v i x))
    (step : ∀ i o, ops[i]? = some o → i + 1 < ops.size → ∀ v w, Pre w → (∀ j, hasDep o j = true → Good j (v j) w) →
      wpOp P ops Q i (fun a' w' => ∃ x, a' = (fr v).put o.dst x ∧ Good i x w' ∧ Below w.heap.size w w' ∧ Pre w') (fr v) w)
    (last : ∀ o, ops[ops.size - 1]? = some o → ∀ v w, Pre w → (∀ i, i + 1 < ops.size → Good i (v i) w) →
      wpOp P ops Q (ops.size - 1) (fun a' w' => ∃ x, a' = (fr v).put o.dst x ∧ Post w') (fr v) w)
    (h0 : Pre w.drew)
    (fin : ∀ v w, Post w → Q .normal (fr v) w) : (Code.region id ops true).wp P Q (fr v0) w := by
  refine wp_region_any hm ?_
  have hno : ∀ i, (Array.replicate ops.size false).getD i false = false := by
    intro i
    rcases Nat.lt_or_ge i ops.size with h | h
    · simp [Array.getD, h]
    · simp [Array.getD, show ¬ i < ops.size by omega]
  refine wpAny_last2 fr Good Pre Post (backB_spec hback) hput mono (usedB_spec hused) (fun i o ho hl v w hw hd => step i o ho hl v w hw fun j hj => by
    obtain ⟨e, he, hb, rfl⟩ := hasDep_spec hj
    exact hd e he hb) last fin hne ops.size (Array.replicate ops.size false) v0 _ (by simp) (by rw [Array.toList_replicate]; exact cnt_all _) (fun j o _ h => by rw [hno] at h; cases h)
    (fun h => by rw [hno] at h; cases h) (fun _ => h0) (fun _ i _ h => by rw [hno] at h; cases h)

end Go.Proofs.YtpdionmecflibaaDoor

/-
  The rule of the text before, where two operations end the region: the one waits for all the others, the other one for it.
-/
namespace Go.Proofs.YtpdionmecflibaaDoor
open Go.RowKit

theorem wpAny_last3 {P : Program} {ops : Array Oper} {Q : Exit → Act → World → Prop} (fr : (Nat → Value) → Act) (Good : Nat → Value → World → Prop) (Pre : World → Prop) (Mid : Value → World → Prop) (Post : Value → World → Prop) (init : Value)
    (hback : ∀ i o, ops[i]? = some o → ∀ e ∈ o.after, Region.binds .any e = true → e.on < i)
    (hput : ∀ i o, ops[i]? = some o → ∀ v x, (fr v).put o.dst x = fr (turn v i x))
    (mono : ∀ i x w w', Below w.heap.size w w' → Good i x w → Good i x w')
    (hused : ∀ i, i + 1 < ops.size → ∃ (j : Nat) (o : Oper), ops[j]? = some o ∧ ∃ e ∈ o.after, Region.binds .any e = true ∧ e.on = i)
    (honly : ∀ i, i + 2 < ops.size → ∃ (j : Nat) (o : Oper), j + 1 < ops.size ∧ ops[j]? = some o ∧ ∃ e ∈ o.after, Region.binds .any e = true ∧ e.on = i)
    (step : ∀ i o, ops[i]? = some o → i + 2 < ops.size → ∀ v w, v (ops.size - 1) = init → Pre w → (∀ e ∈ o.after, Region.binds .any e = true → Good e.on (v e.on) w) →
      wpOp P ops Q i (fun a' w' => ∃ x, a' = (fr v).put o.dst x ∧ Good i x w' ∧ Below w.heap.size w w' ∧ Pre w') (fr v) w)
    (mid : ∀ o, ops[ops.size - 2]? = some o → ∀ v w, Pre w → (∀ i, i + 2 < ops.size → Good i (v i) w) →
      wpOp P ops Q (ops.size - 2) (fun a' w' => ∃ x, a' = (fr v).put o.dst x ∧ Mid x w') (fr v) w)
    (last : ∀ o, ops[ops.size - 1]? = some o → ∀ v w, Mid (v (ops.size - 2)) w →
      wpOp P ops Q (ops.size - 1) (fun a' w' => ∃ x, a' = (fr v).put o.dst x ∧ Post x w') (fr v) w)
    (fin : ∀ v w, Post (v (ops.size - 1)) w → Q .normal (fr v) w) (hne : 2 ≤ ops.size) :
    ∀ (fuel : Nat) (listed : Array Bool) (v : Nat → Value) (w : World), listed.size = ops.size → cnt listed.toList = fuel →
      (∀ j o, ops[j]? = some o → listed.getD j false = true → ∀ e ∈ o.after, Region.binds .any e = true → listed.getD e.on false = true) →
      (listed.getD (ops.size - 1) false = true → Post (v (ops.size - 1)) w) → (listed.getD (ops.size - 2) false = true → listed.getD (ops.size - 1) false = false → Mid (v (ops.size - 2)) w) → (listed.getD (ops.size - 2) false = false → Pre w) →
      (listed.getD (ops.size - 2) false = false → ∀ i, i + 2 < ops.size → listed.getD i false = true → Good i (v i) w) → (listed.getD (ops.size - 2) false = false → v (ops.size - 1) = init) →
      wpAny P .any ops Q fuel listed (fr v) w := by
  have allOf : ∀ (listed : Array Bool), listed.size = ops.size → cnt listed.toList = 0 → ∀ i, i < ops.size → listed.getD i false = true := by
    intro listed hs h0 i hi
    have h := cnt_zero listed.toList h0 i
    have hl : i < listed.toList.length := by simpa [hs] using hi
    simp only [List.getD, List.getElem?_eq_getElem hl, Option.getD_some] at h
    simp [Array.getD, show i < listed.size by omega]
    simpa using h
  have size_of : ∀ {j : Nat} {o : Oper}, ops[j]? = some o → j < ops.size := by
    intro j o ho
    rcases Nat.lt_or_ge j ops.size with h | h
    · exact h
    · simp [Array.getElem?_eq_none h] at ho
  have up : ∀ (listed : Array Bool), (∀ j o, ops[j]? = some o → listed.getD j false = true → ∀ e ∈ o.after, Region.binds .any e = true → listed.getD e.on false = true) →
      ∀ (d i : Nat), ops.size - 2 - i = d → i + 1 < ops.size → listed.getD i false = false → listed.getD (ops.size - 2) false = false := by
    intro listed hcl d
    induction d using Nat.strongRecOn with
    | ind d ih =>
      intro i hd hi hun
      by_cases hl : i + 2 < ops.size
      · obtain ⟨j, o, hj, ho, e, he, hb, rfl⟩ := honly i hl
        have hlt := hback j o ho e he hb
        have hju : listed.getD j false = false := by
          cases hc : listed.getD j false with
          | false => rfl
          | true =>
            have := hcl j o ho hc e he hb
            rw [hun] at this; cases this
        exact ih (ops.size - 2 - j) (by omega) j rfl hj hju
      · have : i = ops.size - 2 := by omega
        subst this
        exact hun
  have down : ∀ (listed : Array Bool), (∀ j o, ops[j]? = some o → listed.getD j false = true → ∀ e ∈ o.after, Region.binds .any e = true → listed.getD e.on false = true) →
      (∀ o, ops[ops.size - 2]? = some o → ∀ e ∈ o.after, Region.binds .any e = true → listed.getD e.on false = true) →
      ∀ (d i : Nat), ops.size - 2 - i = d → i + 2 < ops.size → listed.getD i false = true := by
    intro listed hcl hlast d
    induction d using Nat.strongRecOn with
    | ind d ih =>
      intro i hd hi
      obtain ⟨j, o, hj, ho, e, he, hb, rfl⟩ := honly i hi
      have hlt := hback j o ho e he hb
      by_cases hjl : j + 2 < ops.size
      · exact hcl j o ho (ih (ops.size - 2 - j) (by omega) j rfl hjl) e he hb
      · have : j = ops.size - 2 := by omega
        subst this
        exact hlast o ho e he hb
  intro fuel
  induction fuel with
  | zero =>
    intro listed v w hs hc hcl hpost hmid hpre hg hin
    refine ⟨?_, fin v w (hpost (allOf listed hs hc _ (by omega)))⟩
    simp only [Region.ready, List.filter_eq_nil_iff, List.mem_range]
    intro i hi
    have h := allOf listed hs hc i hi
    have : listed.getD i true = true := by
      simp [Array.getD, show i < listed.size by omega] at h ⊢
      exact h
    simp [this]
  | succ fuel ih =>
    intro listed v w hs hc hcl hpost hmid hpre hg hin
    refine ⟨fun hnil => ?_, fun i hi => ?_⟩
    · exfalso
      obtain ⟨i, h1, h2⟩ := cnt_some listed.toList (by omega)
      have hil : i < listed.size := by
        rcases Nat.lt_or_ge i listed.size with h | h
        · exact h
        · simp [Array.getElem?_eq_none h] at h1
      have hio : i < ops.size := by omega
      have hmem : i ∈ Region.ready .any ops listed := by
        simp only [Region.ready, List.mem_filter, List.mem_range]
        refine ⟨hio, ?_⟩
        have hgi : listed.getD i true = false := by
          simp [hil] at h1
          simp [Array.getD, hil, h1]
        have ho : ops[i]? = some ops[i] := Array.getElem?_eq_getElem hio
        rw [hgi, ho]
        simp only [Bool.not_false, Option.map_some, Option.getD_some, Bool.true_and, Array.all_eq_true']
        intro e he
        cases hb : Region.binds .any e with
        | false => rfl
        | true =>
          have hlt := hback i _ ho e he hb
          have h3 := h2 e.on hlt
          have hel : e.on < listed.size := by omega
          simp [hel] at h3
          simp [Array.getD, hel, h3]
      rw [hnil] at hmem
      cases hmem
    · simp only [Region.ready, List.mem_filter, List.mem_range] at hi
      obtain ⟨hio, hcond⟩ := hi
      have ho : ops[i]? = some ops[i] := Array.getElem?_eq_getElem hio
      rw [ho] at hcond
      simp only [Option.map_some, Option.getD_some, Bool.and_eq_true, Bool.not_eq_true', Array.all_eq_true'] at hcond
      obtain ⟨hun, hdeps⟩ := hcond
      have hil : i < listed.size := by omega
      have hun' : listed.getD i false = false := by
        simp [Array.getD, hil] at hun ⊢
        exact hun
      have hf : listed.toList[i]? = some false := by
        simp [Array.getD, hil] at hun
        simp [hil, hun]
      have hd : ∀ e ∈ ops[i].after, Region.binds .any e = true → listed.getD e.on false = true := by
        intro e he hb
        have h := hdeps e he
        rw [hb] at h
        simpa using h
      have hset : ∀ j, (listed.setIfInBounds i true).getD j false = true → j = i ∨ listed.getD j false = true := by
        intro j hj
        by_cases hji : j = i
        · exact .inl hji
        · right
          have hjl : j < listed.size := by
            rcases Nat.lt_or_ge j listed.size with h | h
            · exact h
            · simp [Array.getD, show ¬ j < listed.size by omega] at hj
          simp [Array.getD, hjl, Ne.symm hji] at hj ⊢
          exact hj
      have hup : ∀ j, listed.getD j false = true → (listed.setIfInBounds i true).getD j false = true := by
        intro j hj
        have hjl : j < listed.size := by
          rcases Nat.lt_or_ge j listed.size with h | h
          · exact h
          · simp [Array.getD, show ¬ j < listed.size by omega] at hj
        by_cases hji : j = i
        · subst hji; simp [Array.getD, hjl]
        · simp [Array.getD, hjl, Ne.symm hji] at hj ⊢
          exact hj
      have hii : (listed.setIfInBounds i true).getD i false = true := by simp [Array.getD, hil]
      have hcl' : ∀ j o, ops[j]? = some o → (listed.setIfInBounds i true).getD j false = true → ∀ e ∈ o.after, Region.binds .any e = true → (listed.setIfInBounds i true).getD e.on false = true := by
        intro j o hoj hj e he hb
        rcases hset j hj with rfl | hj'
        · rw [ho] at hoj
          obtain rfl := Option.some.inj hoj
          exact hup _ (hd e he hb)
        · exact hup _ (hcl j o hoj hj' e he hb)
      have hcnt : cnt (listed.setIfInBounds i true).toList = fuel := by
        have := cnt_set listed.toList i hf
        rw [Array.toList_setIfInBounds]; omega
      by_cases hl : i + 2 < ops.size
      · have hun2 := up listed hcl _ i rfl (by omega) hun'
        refine wpOp_mono ?_ (step i _ ho hl v w (hin hun2) (hpre hun2) fun e he hb => ?_)
        · rintro a' w' ⟨x, rfl, hx, hbel, hw'⟩
          rw [hput i _ ho]
          have hk2 : (listed.setIfInBounds i true).getD (ops.size - 2) false = false := by
            cases hkk : (listed.setIfInBounds i true).getD (ops.size - 2) false with
            | false => rfl
            | true =>
              rcases hset _ hkk with h | h
              · omega
              · rw [hun2] at h; cases h
          have hk1 : (listed.setIfInBounds i true).getD (ops.size - 1) false = false := by
            cases hkk : (listed.setIfInBounds i true).getD (ops.size - 1) false with
            | false => rfl
            | true =>
              obtain ⟨j, o, hoj, e, he, hb, hon⟩ := hused (ops.size - 2) (by omega)
              have hjlt := hback j o hoj e he hb
              have hjs := size_of hoj
              have hj1 : j = ops.size - 1 := by omega
              subst hj1
              have h2 := hcl' _ o hoj hkk e he hb
              rw [hon, hk2] at h2; cases h2
          refine ih _ _ _ (by simpa using hs) hcnt hcl' (fun h => by rw [hk1] at h; cases h) (fun h => by rw [hk2] at h; cases h) (fun _ => hw') ?_ (fun _ => by unfold turn; rw [if_neg (by omega)]; exact hin hun2)
          intro _ j hjl hj
          unfold turn
          by_cases hji : j = i
          · subst hji; simpa using hx
          · rw [if_neg hji]
            rcases hset j hj with h | h
            · exact absurd h hji
            · exact mono j _ w w' hbel (hg hun2 j hjl h)
        · have hlt := hback i _ ho e he hb
          exact hg hun2 e.on (by omega) (hd e he hb)
      · by_cases hl2 : i + 1 < ops.size
        · obtain rfl : i = ops.size - 2 := by omega
          have hall : ∀ j, j + 2 < ops.size → listed.getD j false = true := fun j hj => down listed hcl (fun o hoo e he hb => by
            rw [ho] at hoo
            obtain rfl := Option.some.inj hoo
            exact hd e he hb) _ j rfl hj
          refine wpOp_mono ?_ (mid _ ho v w (hpre hun') fun j hj => hg hun' j hj (hall j hj))
          rintro a' w' ⟨x, rfl, hw'⟩
          rw [hput _ _ ho]
          have hk1 : (listed.setIfInBounds (ops.size - 2) true).getD (ops.size - 1) false = true → False := by
            intro hkk
            rcases hset _ hkk with h | h
            · omega
            · obtain ⟨j, o, hoj, e, he, hb, hon⟩ := hused (ops.size - 2) (by omega)
              have hjlt := hback j o hoj e he hb
              have hjs := size_of hoj
              have hj1 : j = ops.size - 1 := by omega
              subst hj1
              have h2 := hcl _ o hoj h e he hb
              rw [hon, hun'] at h2; cases h2
          refine ih _ _ _ (by simpa using hs) hcnt hcl' (fun h => absurd h (by intro h2; exact hk1 h2)) (fun _ _ => by unfold turn; rw [if_pos rfl]; exact hw') (fun h => by rw [hii] at h; cases h) (fun h => by rw [hii] at h; cases h) (fun h => by rw [hii] at h; cases h)
        · obtain rfl : i = ops.size - 1 := by omega
          have hm2 : listed.getD (ops.size - 2) false = true := by
            obtain ⟨j, o, hoj, e, he, hb, hon⟩ := hused (ops.size - 2) (by omega)
            have hjlt := hback j o hoj e he hb
            have hjs := size_of hoj
            have hj1 : j = ops.size - 1 := by omega
            subst hj1
            rw [ho] at hoj
            obtain rfl := Option.some.inj hoj
            rw [← hon]; exact hd e he hb
          refine wpOp_mono ?_ (last _ ho v w (hmid hm2 hun'))
          rintro a' w' ⟨x, rfl, hw'⟩
          rw [hput _ _ ho]
          refine ih _ _ _ (by simpa using hs) hcnt hcl' (fun _ => by unfold turn; rw [if_pos rfl]; exact hw') (fun _ h => by rw [hii] at h; cases h) (fun h => by rw [hup _ hm2] at h; cases h) (fun h => by rw [hup _ hm2] at h; cases h) (fun h => by rw [hup _ hm2] at h; cases h)

def onlyB (ops : Array Oper) : Bool := (List.range (ops.size - 2)).all fun i => (List.range (ops.size - 1)).any fun j => ((ops[j]?).map fun o => hasDep o i).getD false
theorem onlyB_spec {ops : Array Oper} (h : onlyB ops = true) : ∀ i, i + 2 < ops.size → ∃ (j : Nat) (o : Oper), j + 1 < ops.size ∧ ops[j]? = some o ∧ ∃ e ∈ o.after, Region.binds .any e = true ∧ e.on = i := by
  intro i hi
  have h2 := List.all_eq_true.1 h i (List.mem_range.2 (by omega))
  obtain ⟨j, hj1, hj⟩ := List.any_eq_true.1 h2
  have hj3 := List.mem_range.1 hj1
  cases ho : ops[j]? with
  | none => rw [ho] at hj; cases hj
  | some o =>
    rw [ho] at hj
    exact ⟨j, o, by omega, ho, hasDep_spec (by simpa using hj)⟩

/-- THE RULE. -/
theorem wp_region_last3 {P : Program} {ops : Array Oper} {Q : Exit → Act → World → Prop} {id : Nat} (hm : P.follows .mixedOrders = true)
    (fr : (Nat → Value) → Act) (Good : Nat → Value → World → Prop) (Pre : World → Prop) (Mid : Value → World → Prop) (Post : Value → World → Prop) (v0 : Nat → Value) (w : World)
    (mono : ∀ i x w w', Below w.heap.size w w' → Good i x w → Good i x w') (hback : backB ops = true) (hused : usedB ops = true) (honly : onlyB ops = true) (hne : 2 ≤ ops.size)
    (hput : ∀ i o, ops[i]? = some o → ∀ v x, (fr v).put o.dst x = fr (turn v i x))
    (step : ∀ i o, ops[i]? = some o → i + 2 < ops.size → ∀ v w, v (ops.size - 1) = v0 (ops.size - 1) → Pre w → (∀ j, hasDep o j = true → Good j (v j) w) →
      wpOp P ops Q i (fun a' w' => ∃ x, a' = (fr v).put o.dst x ∧ Good i x w' ∧ Below w.heap.size w w' ∧ Pre w') (fr v) w)
    (mid : ∀ o, ops[ops.size - 2]? = some o → ∀ v w, Pre w → (∀ i, i + 2 < ops.size → Good i (v i) w) →
      wpOp P ops Q (ops.size - 2) (fun a' w' => ∃ x, a' = (fr v).put o.dst x ∧ Mid x w') (fr v) w)
    (last : ∀ o, ops[ops.size - 1]? = some o → ∀ v w, Mid (v (ops.size - 2)) w →
      wpOp P ops Q (ops.size - 1) (fun a' w' => ∃ x, a' = (fr v).put o.dst x ∧ Post x w') (fr v) w)
    (h0 : Pre w.drew)
    (fin : ∀ v w, Post (v (ops.size - 1)) w → Q .normal (fr v) w) : (Code.region id ops true).wp P Q (fr v0) w := by
  refine wp_region_any hm ?_
  have hno : ∀ i, (Array.replicate ops.size false).getD i false = false := by
    intro i
    rcases Nat.lt_or_ge i ops.size with h | h
    · simp [Array.getD, h]
    · simp [Array.getD, show ¬ i < ops.size by omega]
  refine wpAny_last3 fr Good Pre Mid Post (v0 (ops.size - 1)) (backB_spec hback) hput mono (usedB_spec hused) (onlyB_spec honly) (fun i o ho hl v w hv hw hd => step i o ho hl v w hv hw fun j hj => by
    obtain ⟨e, he, hb, rfl⟩ := hasDep_spec hj
    exact hd e he hb) mid last fin hne ops.size (Array.replicate ops.size false) v0 _ (by simp) (by rw [Array.toList_replicate]; exact cnt_all _) (fun j o _ h => by rw [hno] at h; cases h)
    (fun h => by rw [hno] at h; cases h) (fun h => by rw [hno] at h; cases h) (fun _ => h0) (fun _ i _ h => by rw [hno] at h; cases h) (fun _ => rfl)

end Go.Proofs.YtpdionmecflibaaDoor

/-
  'append' as a step of a region that draws its order; a slice of one value that the region lays.
-/
namespace Go.Proofs.YtpdionmecflibaaDoor
open Go.RowKit

theorem step_append_own {P : Program} {ops : Array Oper} {o : Oper} {a : Act} {w : World} {K : Act → World → Prop} {Q : Exit → Act → World → Prop} {E : Prop}
    (hg : o.guard = none) (s x : Operand) (t : TypeId) (hop : o.op = Op.call { callee := Callee.builtin Builtin.append, args := #[s, x], argTypes := #[t, t] })
    (base : Nat) (e : TypeId) (i : TypeInfo) (z : Value) (size bytes : Nat) (h1 : P.underlying t = some (.slice e)) (h2 : P.info? e = some i) (h3 : i.zero = some z) (h4 : i.size = size) (h5 : i.bytes = bytes) (h6 : z.cells.size = size) (h7 : 0 < size)
    (v : Value) (k : Nat) (xs : List Value) (hs : a.eval s = v) (hown : w.ownsRow base e size v k xs) (ad : Addr) (m c : Nat) (news : List Value) (hx : a.eval x = .slice (some ad) m c) (hn : news.length = m * size)
    (hc : ∀ j u, news[j]? = some u → w.cell? (ad.add j) = some u) (h1c : ∀ u ∈ news, u.oneCell' = true) (b1 : k + m ≤ maxLen) (b2 : (k + m) * bytes ≤ 140737488355328) (b3 : base ≤ w.heap.size)
    (hK : ∀ v' w', w'.ownsRow base e size v' (k + m) (xs ++ news) → w.grownBy w' v.ownBlock → K (a.put o.dst v') w') :
    if Region.wanted o (yielded ops a.tmps) = true then Oper.wp P o a w K Q else E := by
  have hw : Region.wanted o (yielded ops a.tmps) = true := by simp [Region.wanted, hg]
  rw [if_pos hw]
  obtain ⟨v', w', hrun, r1, r2, _⟩ := run_append_own (P := P) (w := w) base t o.type e i z size bytes h1 h2 h3 h4 h5 h6 h7 v k xs hown ad m c news hn hc h1c b1 b2 b3
  unfold Oper.wp
  simp [execOp, hop, resolve, invoke, builtin, hs, hx, hrun, Result.andThen]
  exact hK v' w' r1 r2

/-- A slice of one value of the region's own. -/
def IsOne (w : World) (v x : Value) : Prop := ∃ g, v = .slice (some ⟨g, 0, none⟩) 1 1 ∧ w.cell? ⟨g, 0, none⟩ = some x
/-- What the slot of operation i comes to hold. -/
def OneAt (l : List (Value ⊕ Value)) (i : Nat) (x : Value) (w : World) : Prop :=
  match l[i]? with
  | some (.inl c) => x = c
  | some (.inr c) => IsOne w x c
  | none => True
theorem oneAt_mono (l : List (Value ⊕ Value)) (i : Nat) (x : Value) (w w' : World) (hb : Below w.heap.size w w') (h : OneAt l i x w) : OneAt l i x w' := by
  unfold OneAt at h ⊢
  split
  · rename_i c hc; rw [hc] at h; exact h
  · rename_i c hc
    rw [hc] at h
    obtain ⟨g, hg, hcell⟩ := h
    have hblk : g < w.heap.size := World.block_lt_of_cell? w ⟨g, 0, none⟩ hcell
    exact ⟨g, hg, by rw [hb.cell (p := ⟨g, 0, none⟩) hblk]; exact hcell⟩
  · trivial
theorem isOne_new (w : World) (x : Value) (t : TypeId) : IsOne (w.alloc (.cells #[x] t)) (.slice (some ⟨w.heap.size, 0, none⟩) 1 1) x :=
  ⟨w.heap.size, rfl, by rw [cell_of_row _ _ _ _ _ _ (heap_alloc_new w _)]; rfl⟩
theorem IsOne.news {w : World} {v x : Value} (h : IsOne w v x) : ∃ ad, v = .slice (some ad) 1 1 ∧ ∀ j u, [x][j]? = some u → w.cell? (ad.add j) = some u := by
  obtain ⟨g, hg, hc⟩ := h
  refine ⟨_, hg, fun j u hj => ?_⟩
  match j, hj with
  | 0, hj => 
    obtain rfl : x = u := by simpa using hj
    exact hc
  | j + 1, hj => simp at hj

end Go.Proofs.YtpdionmecflibaaDoor
