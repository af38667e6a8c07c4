/-
  A rule for a region that draws its order and whose last operation waits for all the others: each of the others leaves the world as it must be ahead of the last one, the last one turns it.
-/
import Derived.Test.YtpdionmecflibaaDoorRegion
namespace Go.Proofs.YtpdionmecflibaaDoor
open Go.RowKit

theorem wpAny_last {P : Program} {ops : Array Oper} {Q : Exit → Act → World → Prop} (fr : (Nat → Value) → Act) (Good : Nat → Value → Prop) (Pre Post : World → Prop)
    (hback : ∀ i o, ops[i]? = some o → ∀ e ∈ o.after, Region.binds .any e = true → e.on < i)
    (hput : ∀ i o, ops[i]? = some o → ∀ v x, (fr v).put o.dst x = fr (turn v i x))
    (hused : ∀ i, i + 1 < ops.size → ∃ (j : Nat) (o : Oper), ops[j]? = some o ∧ ∃ e ∈ o.after, Region.binds .any e = true ∧ e.on = i)
    (step : ∀ i o, ops[i]? = some o → i + 1 < ops.size → ∀ v w, Pre w → (∀ e ∈ o.after, Region.binds .any e = true → Good e.on (v e.on)) →
      wpOp P ops Q i (fun a' w' => ∃ x, a' = (fr v).put o.dst x ∧ Good i x ∧ Pre w') (fr v) w)
    (last : ∀ o, ops[ops.size - 1]? = some o → ∀ v w, Pre w → (∀ i, i + 1 < ops.size → Good i (v i)) →
      wpOp P ops Q (ops.size - 1) (fun a' w' => ∃ x, a' = (fr v).put o.dst x ∧ Post w') (fr v) w)
    (fin : ∀ v w, Post w → (∀ i, i + 1 < ops.size → Good i (v i)) → Q .normal (fr v) w) (hne : 0 < ops.size) :
    ∀ (fuel : Nat) (listed : Array Bool) (v : Nat → Value) (w : World), listed.size = ops.size → cnt listed.toList = fuel →
      (∀ j o, ops[j]? = some o → listed.getD j false = true → ∀ e ∈ o.after, Region.binds .any e = true → listed.getD e.on false = true) →
      (listed.getD (ops.size - 1) false = true → Post w) → (listed.getD (ops.size - 1) false = false → Pre w) → (∀ i, i + 1 < ops.size → listed.getD i false = true → Good i (v i)) →
      wpAny P .any ops Q fuel listed (fr v) w := by
  have allOf : ∀ (listed : Array Bool), listed.size = ops.size → cnt listed.toList = 0 → ∀ i, i < ops.size → listed.getD i false = true := by
    intro listed hs h0 i hi
    have h := cnt_zero listed.toList h0 i
    have hl : i < listed.toList.length := by simpa [hs] using hi
    simp only [List.getD, List.getElem?_eq_getElem hl, Option.getD_some] at h
    simp [Array.getD, show i < listed.size by omega]
    simpa using h
  -- what is not listed keeps the last one from being listed
  have up : ∀ (listed : Array Bool), (∀ j o, ops[j]? = some o → listed.getD j false = true → ∀ e ∈ o.after, Region.binds .any e = true → listed.getD e.on false = true) →
      ∀ (d i : Nat), ops.size - 1 - i = d → i < ops.size → listed.getD i false = false → listed.getD (ops.size - 1) false = false := by
    intro listed hcl d
    induction d using Nat.strongRecOn with
    | ind d ih =>
      intro i hd hi hun
      by_cases hl : i + 1 < ops.size
      · obtain ⟨j, o, ho, e, he, hb, rfl⟩ := hused i hl
        have hj : j < ops.size := by
          rcases Nat.lt_or_ge j ops.size with h | h
          · exact h
          · simp [Array.getElem?_eq_none h] at ho
        have hlt := hback j o ho e he hb
        have hju : listed.getD j false = false := by
          cases hc : listed.getD j false with
          | false => rfl
          | true =>
            have := hcl j o ho hc e he hb
            rw [hun] at this; cases this
        exact ih (ops.size - 1 - j) (by omega) j rfl hj hju
      · have : i = ops.size - 1 := by omega
        subst this
        exact hun
  -- where the last one is ready, all others are listed
  have down : ∀ (listed : Array Bool), (∀ j o, ops[j]? = some o → listed.getD j false = true → ∀ e ∈ o.after, Region.binds .any e = true → listed.getD e.on false = true) →
      (∀ o, ops[ops.size - 1]? = some o → ∀ e ∈ o.after, Region.binds .any e = true → listed.getD e.on false = true) →
      ∀ (d i : Nat), ops.size - 1 - i = d → i + 1 < ops.size → listed.getD i false = true := by
    intro listed hcl hlast d
    induction d using Nat.strongRecOn with
    | ind d ih =>
      intro i hd hi
      obtain ⟨j, o, ho, e, he, hb, rfl⟩ := hused i hi
      have hj : j < ops.size := by
        rcases Nat.lt_or_ge j ops.size with h | h
        · exact h
        · simp [Array.getElem?_eq_none h] at ho
      have hlt := hback j o ho e he hb
      by_cases hjl : j + 1 < ops.size
      · exact hcl j o ho (ih (ops.size - 1 - j) (by omega) j rfl hjl) e he hb
      · have : j = ops.size - 1 := by omega
        subst this
        exact hlast o ho e he hb
  intro fuel
  induction fuel with
  | zero =>
    intro listed v w hs hc hcl hpost hpre hg
    refine ⟨?_, fin v w (hpost (allOf listed hs hc _ (by omega))) fun i hi => hg i hi (allOf listed hs hc i (by omega))⟩
    simp only [Region.ready, List.filter_eq_nil_iff, List.mem_range]
    intro i hi
    have h := allOf listed hs hc i hi
    have : listed.getD i true = true := by
      simp [Array.getD, show i < listed.size by omega] at h ⊢
      exact h
    simp [this]
  | succ fuel ih =>
    intro listed v w hs hc hcl hpost hpre hg
    refine ⟨fun hnil => ?_, fun i hi => ?_⟩
    · exfalso
      obtain ⟨i, h1, h2⟩ := cnt_some listed.toList (by omega)
      have hil : i < listed.size := by
        rcases Nat.lt_or_ge i listed.size with h | h
        · exact h
        · simp [Array.getElem?_eq_none h] at h1
      have hio : i < ops.size := by omega
      have hmem : i ∈ Region.ready .any ops listed := by
        simp only [Region.ready, List.mem_filter, List.mem_range]
        refine ⟨hio, ?_⟩
        have hgi : listed.getD i true = false := by
          simp [hil] at h1
          simp [Array.getD, hil, h1]
        have ho : ops[i]? = some ops[i] := Array.getElem?_eq_getElem hio
        rw [hgi, ho]
        simp only [Bool.not_false, Option.map_some, Option.getD_some, Bool.true_and, Array.all_eq_true']
        intro e he
        cases hb : Region.binds .any e with
        | false => rfl
        | true =>
          have hlt := hback i _ ho e he hb
          have h3 := h2 e.on hlt
          have hel : e.on < listed.size := by omega
          simp [hel] at h3
          simp [Array.getD, hel, h3]
      rw [hnil] at hmem
      cases hmem
    · simp only [Region.ready, List.mem_filter, List.mem_range] at hi
      obtain ⟨hio, hcond⟩ := hi
      have ho : ops[i]? = some ops[i] := Array.getElem?_eq_getElem hio
      rw [ho] at hcond
      simp only [Option.map_some, Option.getD_some, Bool.and_eq_true, Bool.not_eq_true', Array.all_eq_true'] at hcond
      obtain ⟨hun, hdeps⟩ := hcond
      have hil : i < listed.size := by omega
      have hun' : listed.getD i false = false := by
        simp [Array.getD, hil] at hun ⊢
        exact hun
      have hf : listed.toList[i]? = some false := by
        simp [Array.getD, hil] at hun
        simp [hil, hun]
      have hpre' := hpre (up listed hcl _ i rfl hio hun')
      have hd : ∀ e ∈ ops[i].after, Region.binds .any e = true → listed.getD e.on false = true := by
        intro e he hb
        have h := hdeps e he
        rw [hb] at h
        simpa using h
      have hset : ∀ j, (listed.setIfInBounds i true).getD j false = true → j = i ∨ listed.getD j false = true := by
        intro j hj
        by_cases hji : j = i
        · exact .inl hji
        · right
          have hjl : j < listed.size := by
            rcases Nat.lt_or_ge j listed.size with h | h
            · exact h
            · simp [Array.getD, show ¬ j < listed.size by omega] at hj
          simp [Array.getD, hjl, Ne.symm hji] at hj ⊢
          exact hj
      have hup : ∀ j, listed.getD j false = true → (listed.setIfInBounds i true).getD j false = true := by
        intro j hj
        have hjl : j < listed.size := by
          rcases Nat.lt_or_ge j listed.size with h | h
          · exact h
          · simp [Array.getD, show ¬ j < listed.size by omega] at hj
        by_cases hji : j = i
        · subst hji; simp [Array.getD, hjl]
        · simp [Array.getD, hjl, Ne.symm hji] at hj ⊢
          exact hj
      have hii : (listed.setIfInBounds i true).getD i false = true := by simp [Array.getD, hil]
      have hcl' : ∀ j o, ops[j]? = some o → (listed.setIfInBounds i true).getD j false = true → ∀ e ∈ o.after, Region.binds .any e = true → (listed.setIfInBounds i true).getD e.on false = true := by
        intro j o hoj hj e he hb
        rcases hset j hj with rfl | hj'
        · rw [ho] at hoj
          obtain rfl := Option.some.inj hoj
          exact hup _ (hd e he hb)
        · exact hup _ (hcl j o hoj hj' e he hb)
      have hcnt : cnt (listed.setIfInBounds i true).toList = fuel := by
        have := cnt_set listed.toList i hf
        rw [Array.toList_setIfInBounds]; omega
      by_cases hl : i + 1 < ops.size
      · refine wpOp_mono ?_ (step i _ ho hl v w hpre' fun e he hb => ?_)
        · rintro a' w' ⟨x, rfl, hx, hw'⟩
          rw [hput i _ ho]
          have hk : (listed.setIfInBounds i true).getD (ops.size - 1) false = false := by
            cases hkk : (listed.setIfInBounds i true).getD (ops.size - 1) false with
            | false => rfl
            | true =>
              rcases hset _ hkk with h | h
              · omega
              · rw [up listed hcl _ i rfl hio hun'] at h; cases h
          refine ih _ _ _ (by simpa using hs) hcnt hcl' (fun h => by rw [hk] at h; cases h) (fun _ => hw') ?_
          intro j hjl hj
          unfold turn
          by_cases hji : j = i
          · subst hji; simpa using hx
          · rw [if_neg hji]
            rcases hset j hj with h | h
            · exact absurd h hji
            · exact hg j hjl h
        · have hlt := hback i _ ho e he hb
          exact hg e.on (by omega) (hd e he hb)
      · obtain rfl : i = ops.size - 1 := by omega
        have hall : ∀ j, j + 1 < ops.size → listed.getD j false = true := fun j hj => down listed hcl (fun o hoo e he hb => by
          rw [ho] at hoo
          obtain rfl := Option.some.inj hoo
          exact hd e he hb) _ j rfl hj
        refine wpOp_mono ?_ (last _ ho v w hpre' fun j hj => hg j hj (hall j hj))
        rintro a' w' ⟨x, rfl, hw'⟩
        rw [hput _ _ ho]
        refine ih _ _ _ (by simpa using hs) hcnt hcl' (fun _ => hw') (fun h => by rw [hii] at h; cases h) ?_
        intro j hjl hj
        unfold turn
        rw [if_neg (by omega)]
        exact hg j hjl (hall j hjl)

/-- Each operation but the last is waited for. -/
def usedB (ops : Array Oper) : Bool := (List.range (ops.size - 1)).all fun i => (List.range ops.size).any fun j => ((ops[j]?).map fun o => hasDep o i).getD false
theorem usedB_spec {ops : Array Oper} (h : usedB ops = true) : ∀ i, i + 1 < ops.size → ∃ (j : Nat) (o : Oper), ops[j]? = some o ∧ ∃ e ∈ o.after, Region.binds .any e = true ∧ e.on = i := by
  intro i hi
  have h2 := List.all_eq_true.1 h i (List.mem_range.2 (by omega))
  obtain ⟨j, _, hj⟩ := List.any_eq_true.1 h2
  cases ho : ops[j]? with
  | none => rw [ho] at hj; cases hj
  | some o =>
    rw [ho] at hj
    exact ⟨j, o, ho, hasDep_spec (by simpa using hj)⟩

/-- THE RULE. -/
theorem wp_region_last {P : Program} {ops : Array Oper} {Q : Exit → Act → World → Prop} {id : Nat} (hm : P.follows .mixedOrders = true)
    (fr : (Nat → Value) → Act) (Good : Nat → Value → Prop) (Pre Post : World → Prop) (v0 : Nat → Value) (w : World)
    (hback : backB ops = true) (hused : usedB ops = true) (hne : 0 < ops.size)
    (hput : ∀ i o, ops[i]? = some o → ∀ v x, (fr v).put o.dst x = fr (turn v i x))
    (step : ∀ i o, ops[i]? = some o → i + 1 < ops.size → ∀ v w, Pre w → (∀ j, hasDep o j = true → Good j (v j)) →
      wpOp P ops Q i (fun a' w' => ∃ x, a' = (fr v).put o.dst x ∧ Good i x ∧ Pre w') (fr v) w)
    (last : ∀ o, ops[ops.size - 1]? = some o → ∀ v w, Pre w → (∀ i, i + 1 < ops.size → Good i (v i)) →
      wpOp P ops Q (ops.size - 1) (fun a' w' => ∃ x, a' = (fr v).put o.dst x ∧ Post w') (fr v) w)
    (h0 : Pre w.drew)
    (fin : ∀ v w, Post w → (∀ i, i + 1 < ops.size → Good i (v i)) → Q .normal (fr v) w) : (Code.region id ops true).wp P Q (fr v0) w := by
  refine wp_region_any hm ?_
  have hno : ∀ i, (Array.replicate ops.size false).getD i false = false := by
    intro i
    rcases Nat.lt_or_ge i ops.size with h | h
    · simp [Array.getD, h]
    · simp [Array.getD, show ¬ i < ops.size by omega]
  refine wpAny_last fr Good Pre Post (backB_spec hback) hput (usedB_spec hused) (fun i o ho hl v w hw hd => step i o ho hl v w hw fun j hj => by
    obtain ⟨e, he, hb, rfl⟩ := hasDep_spec hj
    exact hd e he hb) last fin hne ops.size (Array.replicate ops.size false) v0 _ (by simp) (by rw [Array.toList_replicate]; exact cnt_all _) (fun j o _ h => by rw [hno] at h; cases h)
    (fun h => by rw [hno] at h; cases h) (fun _ => h0) (fun i _ h => by rw [hno] at h; cases h)

end Go.Proofs.YtpdionmecflibaaDoor
