/-
  Some texts of one proof, one behind the other.
-/
import Derived.Orders
import Derived.RegionTactic
import Derived.Below
set_option linter.unusedVariables false
set_option linter.unusedSimpArgs false

/-
  A rule for a region that draws its order: whatever order is drawn, each operation's slot comes to hold what it should, once it has run. So each operation is looked at once, not once an order.
-/
namespace Go.Proofs.YtngdbhncafnliaaGreat
open Go.RowKit

/-- How many are not listed yet. -/
def cnt : List Bool → Nat
  | [] => 0
  | b :: r => (if b then 0 else 1) + cnt r
theorem cnt_set : ∀ (l : List Bool) (i : Nat), l[i]? = some false → cnt (l.set i true) + 1 = cnt l
  | [], i, h => by simp at h
  | b :: r, 0, h => by simp at h; subst h; simp [cnt]; omega
  | b :: r, i + 1, h => by
    have := cnt_set r i (by simpa using h)
    simp only [List.set_cons_succ, cnt]; omega
theorem cnt_zero : ∀ (l : List Bool), cnt l = 0 → ∀ i : Nat, l.getD i true = true
  | [], _, i => by simp
  | b :: r, h, 0 => by
    cases b with
    | true => rfl
    | false => simp [cnt] at h
  | b :: r, h, i + 1 => by
    have h2 : cnt r = 0 := by simp only [cnt] at h; omega
    have := cnt_zero r h2 i
    simpa [List.getD] using this
theorem cnt_some : ∀ (l : List Bool), 0 < cnt l → ∃ i : Nat, l[i]? = some false ∧ ∀ j : Nat, j < i → l[j]? = some true
  | [], h => by simp [cnt] at h
  | false :: r, _ => ⟨0, rfl, fun j h => by omega⟩
  | true :: r, h => by
    obtain ⟨i, hi, hj⟩ := cnt_some r (by simpa [cnt] using h)
    refine ⟨i + 1, by simpa using hi, fun j h2 => ?_⟩
    cases j with
    | zero => rfl
    | succ j => simpa using hj j (by omega)
theorem cnt_all (n : Nat) : cnt (List.replicate n false) = n := by
  induction n with
  | zero => rfl
  | succ n ih => simp only [List.replicate_succ, cnt, ih]; simp; omega

/-- The frame with one place turned. -/
def turn (v : Nat → Value) (i : Nat) (x : Value) : Nat → Value := fun j => if j = i then x else v j

theorem wpAny_inv {P : Program} {ops : Array Oper} {Q : Exit → Act → World → Prop} (fr : (Nat → Value) → Act) (Good : Nat → Value → World → Prop) (WI : World → Prop)
    (hback : ∀ i o, ops[i]? = some o → ∀ e ∈ o.after, Region.binds .any e = true → e.on < i)
    (hput : ∀ i o, ops[i]? = some o → ∀ v x, (fr v).put o.dst x = fr (turn v i x))
    (mono : ∀ i x w w', Below w.heap.size w w' → Good i x w → Good i x w')
    (step : ∀ i o, ops[i]? = some o → ∀ v w, WI w → (∀ e ∈ o.after, Region.binds .any e = true → Good e.on (v e.on) w) →
      wpOp P ops Q i (fun a' w' => ∃ x, a' = (fr v).put o.dst x ∧ Good i x w' ∧ Below w.heap.size w w' ∧ WI w') (fr v) w)
    (fin : ∀ v w, WI w → (∀ i, i < ops.size → Good i (v i) w) → Q .normal (fr v) w) :
    ∀ (fuel : Nat) (listed : Array Bool) (v : Nat → Value) (w : World), listed.size = ops.size → cnt listed.toList = fuel → WI w → (∀ i, listed.getD i false = true → Good i (v i) w) →
      wpAny P .any ops Q fuel listed (fr v) w := by
  have allOf : ∀ (listed : Array Bool), listed.size = ops.size → cnt listed.toList = 0 → ∀ i, i < ops.size → listed.getD i false = true := by
    intro listed hs h0 i hi
    have h := cnt_zero listed.toList h0 i
    have hl : i < listed.toList.length := by simpa [hs] using hi
    simp only [List.getD, List.getElem?_eq_getElem hl, Option.getD_some] at h
    simp [Array.getD, show i < listed.size by omega]
    simpa using h
  intro fuel
  induction fuel with
  | zero =>
    intro listed v w hs hc hw hg
    refine ⟨?_, fin v w hw fun i hi => hg i (allOf listed hs hc i hi)⟩
    simp only [Region.ready, List.filter_eq_nil_iff, List.mem_range]
    intro i hi
    have h := allOf listed hs hc i hi
    have : listed.getD i true = true := by
      simp [Array.getD, show i < listed.size by omega] at h ⊢
      exact h
    simp [this]
  | succ fuel ih =>
    intro listed v w hs hc hw hg
    refine ⟨fun hnil => ?_, fun i hi => ?_⟩
    · exfalso
      obtain ⟨i, h1, h2⟩ := cnt_some listed.toList (by omega)
      have hil : i < listed.size := by
        rcases Nat.lt_or_ge i listed.size with h | h
        · exact h
        · simp [Array.getElem?_eq_none h] at h1
      have hio : i < ops.size := by omega
      have hmem : i ∈ Region.ready .any ops listed := by
        simp only [Region.ready, List.mem_filter, List.mem_range]
        refine ⟨hio, ?_⟩
        have hgi : listed.getD i true = false := by
          simp [hil] at h1
          simp [Array.getD, hil, h1]
        have ho : ops[i]? = some ops[i] := Array.getElem?_eq_getElem hio
        rw [hgi, ho]
        simp only [Bool.not_false, Option.map_some, Option.getD_some, Bool.true_and, Array.all_eq_true']
        intro e he
        cases hb : Region.binds .any e with
        | false => rfl
        | true =>
          have hlt := hback i _ ho e he hb
          have h3 := h2 e.on hlt
          have hel : e.on < listed.size := by omega
          simp [hel] at h3
          simp [Array.getD, hel, h3]
      rw [hnil] at hmem
      cases hmem
    · simp only [Region.ready, List.mem_filter, List.mem_range] at hi
      obtain ⟨hio, hcond⟩ := hi
      have ho : ops[i]? = some ops[i] := Array.getElem?_eq_getElem hio
      rw [ho] at hcond
      simp only [Option.map_some, Option.getD_some, Bool.and_eq_true, Bool.not_eq_true', Array.all_eq_true'] at hcond
      obtain ⟨hun, hdeps⟩ := hcond
      have hil : i < listed.size := by omega
      have hf : listed.toList[i]? = some false := by
        simp [Array.getD, hil] at hun
        simp [hil, hun]
      refine wpOp_mono ?_ (step i _ ho v w hw fun e he hb => hg e.on ?_)
      · rintro a' w' ⟨x, rfl, hx, hbel, hw'⟩
        rw [hput i _ ho]
        refine ih _ _ _ (by simpa using hs) ?_ hw' ?_
        · have := cnt_set listed.toList i hf
          rw [Array.toList_setIfInBounds]; omega
        · intro j hj
          unfold turn
          by_cases hji : j = i
          · subst hji; simpa using hx
          · rw [if_neg hji]
            refine mono j _ w w' hbel (hg j ?_)
            have hjl : j < listed.size := by
              rcases Nat.lt_or_ge j listed.size with h | h
              · exact h
              · simp [Array.getD, show ¬ j < listed.size by omega] at hj
            simp [Array.getD, hjl, Ne.symm hji] at hj ⊢
            exact hj
      · have h := hdeps e he
        rw [hb] at h
        simpa using h

def hasDep (o : Oper) (j : Nat) : Bool := o.after.toList.any fun e => Region.binds .any e && e.on == j
theorem hasDep_spec {o : Oper} {j : Nat} (h : hasDep o j = true) : ∃ e ∈ o.after, Region.binds .any e = true ∧ e.on = j := by
  obtain ⟨e, he, hb⟩ := List.any_eq_true.1 h
  simp only [Bool.and_eq_true, beq_iff_eq] at hb
  exact ⟨e, by simpa using he, hb.1, hb.2⟩
def backB (ops : Array Oper) : Bool := (List.range ops.size).all fun i => ((ops[i]?).map fun o => o.after.toList.all fun e => !Region.binds .any e || decide (e.on < i)).getD true
theorem backB_spec {ops : Array Oper} (h : backB ops = true) : ∀ i o, ops[i]? = some o → ∀ e ∈ o.after, Region.binds .any e = true → e.on < i := by
  intro i o ho e he hb
  have hi : i < ops.size := by
    rcases Nat.lt_or_ge i ops.size with h | h
    · exact h
    · simp [Array.getElem?_eq_none h] at ho
  have h2 := List.all_eq_true.1 h i (List.mem_range.2 hi)
  rw [ho] at h2
  simp only [Option.map_some, Option.getD_some] at h2
  have h3 := List.all_eq_true.1 h2 e (by simpa using he)
  rw [hb] at h3
  simpa using h3

/-- THE RULE. -/
theorem wp_region_inv {P : Program} {ops : Array Oper} {Q : Exit → Act → World → Prop} {id : Nat} (hm : P.follows .mixedOrders = true)
    (fr : (Nat → Value) → Act) (Good : Nat → Value → World → Prop) (WI : World → Prop) (v0 : Nat → Value) (w : World)
    (hback : backB ops = true)
    (hput : ∀ i o, ops[i]? = some o → ∀ v x, (fr v).put o.dst x = fr (turn v i x))
    (mono : ∀ i x w w', Below w.heap.size w w' → Good i x w → Good i x w')
    (step : ∀ i o, ops[i]? = some o → ∀ v w, WI w → (∀ j, hasDep o j = true → Good j (v j) w) →
      wpOp P ops Q i (fun a' w' => ∃ x, a' = (fr v).put o.dst x ∧ Good i x w' ∧ Below w.heap.size w w' ∧ WI w') (fr v) w)
    (h0 : WI w.drew)
    (fin : ∀ v w, WI w → (∀ i, i < ops.size → Good i (v i) w) → Q .normal (fr v) w) : (Code.region id ops true).wp P Q (fr v0) w := by
  refine wp_region_any hm ?_
  refine wpAny_inv fr Good WI (backB_spec hback) hput mono (fun i o ho v w hw hd => step i o ho v w hw fun j hj => by
    obtain ⟨e, he, hb, rfl⟩ := hasDep_spec hj
    exact hd e he hb) fin ops.size (Array.replicate ops.size false) v0 _ (by simp) (by rw [Array.toList_replicate]; exact cnt_all _) h0 ?_
  intro i hi
  exfalso
  rcases Nat.lt_or_ge i ops.size with h | h
  · simp [Array.getD, h] at hi
  · simp [Array.getD, show ¬ i < ops.size by omega] at hi

end Go.Proofs.YtngdbhncafnliaaGreat

/-
  A rule for a region that draws its order and whose slots stand one behind the other: each comes to hold the value that is listed for it, in whatever order.
-/
namespace Go.Proofs.YtngdbhncafnliaaGreat
open Go.RowKit

def setFrom : Array Value → Nat → List Value → Array Value
  | t, _, [] => t
  | t, b, v :: vs => setFrom (t.setIfInBounds b v) (b + 1) vs
theorem setFrom_size : ∀ (l : List Value) (t : Array Value) (b : Nat), (setFrom t b l).size = t.size
  | [], _, _ => rfl
  | v :: l, t, b => by unfold setFrom; rw [setFrom_size l]; simp
theorem setFrom_get : ∀ (l : List Value) (t : Array Value) (b k : Nat), b + l.length ≤ t.size → (setFrom t b l)[k]? = if b ≤ k ∧ k < b + l.length then l[k - b]? else t[k]?
  | [], t, b, k, _ => by
    have : ¬ (b ≤ k ∧ k < b + ([] : List Value).length) := by simp
    rw [if_neg this]; rfl
  | v :: l, t, b, k, h => by
    rw [List.length_cons] at h
    unfold setFrom
    rw [setFrom_get l _ _ _ (by simp; omega), List.length_cons]
    by_cases h1 : b + 1 ≤ k ∧ k < b + 1 + l.length
    · rw [if_pos h1, if_pos (by omega)]
      obtain ⟨j, rfl⟩ : ∃ j, k = b + 1 + j := ⟨k - (b + 1), by omega⟩
      rw [show b + 1 + j - (b + 1) = j by omega, show b + 1 + j - b = j + 1 by omega, List.getElem?_cons_succ]
    · rw [if_neg h1]
      by_cases h2 : k = b
      · subst h2
        rw [if_pos (by omega), Nat.sub_self, List.getElem?_cons_zero, Array.getElem?_setIfInBounds_self_of_lt (by omega)]
      · rw [if_neg (by omega), Array.getElem?_setIfInBounds_ne (by omega)]
def frm (F : Act) (b n : Nat) (v : Nat → Value) : Act := { F with tmps := setFrom F.tmps b ((List.range n).map v) }
theorem frm_get (F : Act) (b n : Nat) (v : Nat → Value) (k : Nat) (h : b + n ≤ F.tmps.size) : (frm F b n v).tmps[k]? = if b ≤ k ∧ k < b + n then some (v (k - b)) else F.tmps[k]? := by
  show (setFrom F.tmps b ((List.range n).map v))[k]? = _
  rw [setFrom_get _ _ _ _ (by simpa using h)]
  simp only [List.length_map, List.length_range]
  split
  · rename_i hk
    rw [List.getElem?_map, List.getElem?_range (by omega)]; rfl
  · rfl
theorem act_ext {a b : Act} (h1 : a.tmps = b.tmps) (h2 : a.defers = b.defers) : a = b := by
  cases a; cases b; cases h1; cases h2; rfl
theorem frm_put (F : Act) (b n : Nat) (v : Nat → Value) (i : Nat) (x : Value) (hi : i < n) (h : b + n ≤ F.tmps.size) : (frm F b n v).put (some (b + i)) x = frm F b n (turn v i x) := by
  apply act_ext
  · show (frm F b n v).tmps.setIfInBounds (b + i) x = (frm F b n (turn v i x)).tmps
    apply Array.ext_getElem?
    intro k
    rw [frm_get _ _ _ _ _ h]
    have hs : (frm F b n v).tmps.size = F.tmps.size := setFrom_size _ _ _
    by_cases hk : k = b + i
    · subst hk
      rw [Array.getElem?_setIfInBounds_self_of_lt (by omega), if_pos (by omega)]
      unfold turn; rw [if_pos (by omega)]
    · rw [Array.getElem?_setIfInBounds_ne (by omega), frm_get _ _ _ _ _ h]
      by_cases h2 : b ≤ k ∧ k < b + n
      · rw [if_pos h2, if_pos h2]; unfold turn; rw [if_neg (by omega)]
      · rw [if_neg h2, if_neg h2]
  · rfl
theorem frm_own (F : Act) (b n : Nat) (h : b + n ≤ F.tmps.size) : frm F b n (fun i => F.tmps.getD (b + i) undef) = F := by
  apply act_ext
  · apply Array.ext_getElem?
    intro k
    rw [frm_get _ _ _ _ _ h]
    split
    · rename_i hk
      rw [show b + (k - b) = k by omega, Array.getElem?_eq_getElem (by omega)]
      simp [Array.getD, show k < F.tmps.size by omega]
    · rfl
  · rfl
theorem frm_vals (F : Act) (b : Nat) (vals : List Value) (v : Nat → Value) (h : b + vals.length ≤ F.tmps.size) (hv : ∀ i, i < vals.length → vals[i]? = some (v i)) : frm F b vals.length v = { F with tmps := setFrom F.tmps b vals } := by
  apply act_ext
  · apply Array.ext_getElem?
    intro k
    rw [frm_get _ _ _ _ _ h]
    show _ = (setFrom F.tmps b vals)[k]?
    rw [setFrom_get _ _ _ _ h]
    split
    · rename_i hk; rw [hv _ (by omega)]
    · rfl
  · rfl
def dstB (ops : Array Oper) (b : Nat) : Bool := (List.range ops.size).all fun i => ((ops[i]?).map fun o => o.dst == some (b + i)).getD true
theorem dstB_spec {ops : Array Oper} {b : Nat} (h : dstB ops b = true) (i : Nat) (o : Oper) (ho : ops[i]? = some o) : o.dst = some (b + i) := by
  have hi : i < ops.size := by
    rcases Nat.lt_or_ge i ops.size with h | h
    · exact h
    · simp [Array.getElem?_eq_none h] at ho
  have h2 := List.all_eq_true.1 h i (List.mem_range.2 hi)
  rw [ho] at h2
  simpa using h2
theorem wp_region_vals {P : Program} {ops : Array Oper} {Q : Exit → Act → World → Prop} {id : Nat} (hm : P.follows .mixedOrders = true) (F : Act) (b : Nat) (vals : List Value) (w : World)
    (hn : vals.length = ops.size) (hsz : b + ops.size ≤ F.tmps.size) (hdst : dstB ops b = true) (hback : backB ops = true)
    (step : ∀ i o, ops[i]? = some o → ∀ (a : Act) (w' : World), Below w.heap.size w w' → (∀ k, (k < b ∨ b + ops.size ≤ k) → a.tmps[k]? = F.tmps[k]?) → (∀ j, hasDep o j = true → a.tmps[b + j]? = vals[j]?) →
      wpOp P ops Q i (fun a' w'' => a' = a.put o.dst (vals.getD i undef) ∧ Below w'.heap.size w' w'') a w')
    (fin : ∀ w', Below w.heap.size w w' → Q .normal { F with tmps := setFrom F.tmps b vals } w') : (Code.region id ops true).wp P Q F w := by
  have hF := frm_own F b ops.size hsz
  have hlt : ∀ i o, ops[i]? = some o → i < ops.size := fun i o ho => by
    rcases Nat.lt_or_ge i ops.size with h | h
    · exact h
    · simp [Array.getElem?_eq_none h] at ho
  rw [← hF]
  refine wp_region_inv hm (frm F b ops.size) (fun i x _ => vals[i]? = some x) (fun u => Below w.heap.size w u) _ w hback ?_ (fun _ _ _ _ _ h => h) ?_ (Below.refl _ _).drew ?_
  · intro i o ho v x
    rw [dstB_spec hdst i o ho]
    exact frm_put F b _ v i x (hlt i o ho) hsz
  · intro i o ho v w1 hw hd
    refine wpOp_mono ?_ (step i o ho (frm F b ops.size v) w1 hw (fun k hk => ?_) (fun j hj => ?_))
    · rintro a' w2 ⟨rfl, hb⟩
      have hi := hlt i o ho
      exact ⟨_, rfl, by rw [List.getD_eq_getElem?_getD, List.getElem?_eq_getElem (by omega)]; rfl, hb, hw.trans (hb.mono hw.size)⟩
    · rw [frm_get _ _ _ _ _ hsz, if_neg (by omega)]
    · have hjv := hd j hj
      have hj : j < vals.length := by
        rcases Nat.lt_or_ge j vals.length with h | h
        · exact h
        · rw [List.getElem?_eq_none h] at hjv; cases hjv
      rw [frm_get _ _ _ _ _ hsz, if_pos (by omega), show b + j - b = j by omega, hjv]
  · intro v w1 hw hg
    have := frm_vals F b vals v (by omega) (fun i hi => hg i (by omega))
    rw [hn] at this
    rw [this]
    exact fin w1 hw
end Go.Proofs.YtngdbhncafnliaaGreat

/-
  A rule for a region that draws its order, whose slots stand one behind the other: each comes to hold the value that is listed for it; of one of them it is only known what it is like.
-/
namespace Go.Proofs.YtngdbhncafnliaaGreat
open Go.RowKit

theorem wp_region_good {P : Program} {ops : Array Oper} {Q : Exit → Act → World → Prop} {id : Nat} (hm : P.follows .mixedOrders = true) (F : Act) (b : Nat) (vals : List Value) (i0 : Nat) (G : Value → World → Prop) (w : World)
    (hGm : ∀ x u u', Below u.heap.size u u' → G x u → G x u')
    (hn : vals.length = ops.size) (hsz : b + ops.size ≤ F.tmps.size) (hdst : dstB ops b = true) (hback : backB ops = true) (hi0 : i0 < ops.size)
    (step : ∀ i o, ops[i]? = some o → ∀ (a : Act) (X : Value) (w' : World), Below w.heap.size w w' → (∀ k, (k < b ∨ b + ops.size ≤ k) → a.tmps[k]? = F.tmps[k]?) → (∀ j, hasDep o j = true → j ≠ i0 → a.tmps[b + j]? = vals[j]?) → (hasDep o i0 = true → a.tmps[b + i0]? = some X ∧ G X w') →
      wpOp P ops Q i (fun a' w'' => (i ≠ i0 → a' = a.put o.dst (vals.getD i undef)) ∧ (i = i0 → ∃ x, a' = a.put o.dst x ∧ G x w'') ∧ Below w'.heap.size w' w'') a w')
    (fin : ∀ X w', Below w.heap.size w w' → G X w' → Q .normal { F with tmps := setFrom F.tmps b (vals.set i0 X) } w') : (Code.region id ops true).wp P Q F w := by
  have hF := frm_own F b ops.size hsz
  have hlt : ∀ i o, ops[i]? = some o → i < ops.size := fun i o ho => by
    rcases Nat.lt_or_ge i ops.size with h | h
    · exact h
    · simp [Array.getElem?_eq_none h] at ho
  rw [← hF]
  refine wp_region_inv hm (frm F b ops.size) (fun i x u => (i ≠ i0 → vals[i]? = some x) ∧ (i = i0 → G x u)) (fun u => Below w.heap.size w u) _ w hback ?_ (fun i x u u' hb h => ⟨h.1, fun e => hGm x u u' hb (h.2 e)⟩) ?_ (Below.refl _ _).drew ?_
  · intro i o ho v x
    rw [dstB_spec hdst i o ho]
    exact frm_put F b _ v i x (hlt i o ho) hsz
  · intro i o ho v w1 hw hd
    refine wpOp_mono ?_ (step i o ho (frm F b ops.size v) (v i0) w1 hw (fun k hk => ?_) (fun j hj hji => ?_) (fun hj => ?_))
    · rintro a' w2 ⟨h1, h2, hb⟩
      have hi := hlt i o ho
      by_cases e : i = i0
      · obtain ⟨x, hx, hg⟩ := h2 e
        exact ⟨x, hx, ⟨fun h => absurd e h, fun _ => hg⟩, hb, hw.trans (hb.mono hw.size)⟩
      · exact ⟨_, h1 e, ⟨fun _ => by rw [List.getD_eq_getElem?_getD, List.getElem?_eq_getElem (by omega)]; rfl, fun h => absurd h e⟩, hb, hw.trans (hb.mono hw.size)⟩
    · rw [frm_get _ _ _ _ _ hsz, if_neg (by omega)]
    · have hjv := (hd j hj).1 hji
      have hj : j < vals.length := by
        rcases Nat.lt_or_ge j vals.length with h | h
        · exact h
        · rw [List.getElem?_eq_none h] at hjv; cases hjv
      rw [frm_get _ _ _ _ _ hsz, if_pos (by omega), show b + j - b = j by omega, hjv]
    · refine ⟨?_, (hd i0 hj).2 rfl⟩
      rw [frm_get _ _ _ _ _ hsz, if_pos (by omega), show b + i0 - b = i0 by omega]
  · intro v w1 hw hg
    have := frm_vals F b (vals.set i0 (v i0)) v (by rw [List.length_set]; omega) (fun i hi => by
      rw [List.length_set] at hi
      by_cases e : i = i0
      · subst e; rw [List.getElem?_set_self (by omega)]
      · rw [List.getElem?_set_ne (Ne.symm e)]; exact (hg i (by omega)).1 e)
    rw [List.length_set, hn] at this
    rw [this]
    exact fin _ w1 hw ((hg i0 hi0).2 rfl)
end Go.Proofs.YtngdbhncafnliaaGreat

/-
  A rule for a region that draws its order, whatever slots it writes: each comes to hold the value that is listed for it; of some of them it is only known what they are like.
-/
namespace Go.Proofs.YtngdbhncafnliaaGreat
open Go.RowKit

def setD (t : Array Value) (d : Nat → Nat) : Nat → (Nat → Value) → Array Value
  | 0, _ => t
  | n + 1, v => (setD t d n v).setIfInBounds (d n) (v n)
theorem setD_size (t : Array Value) (d : Nat → Nat) : ∀ (n : Nat) (v : Nat → Value), (setD t d n v).size = t.size
  | 0, _ => rfl
  | n + 1, v => by unfold setD; simp [setD_size t d n v]
theorem setD_at (t : Array Value) (d : Nat → Nat) : ∀ (n : Nat) (v : Nat → Value), (∀ i j, i < n → j < n → d i = d j → i = j) → (∀ i, i < n → d i < t.size) → ∀ i, i < n → (setD t d n v)[d i]? = some (v i)
  | 0, _, _, _, i, hi => by omega
  | n + 1, v, hinj, hlt, i, hi => by
    unfold setD
    by_cases e : i = n
    · subst e
      rw [Array.getElem?_setIfInBounds_self_of_lt (by rw [setD_size]; exact hlt i hi)]
    · rw [Array.getElem?_setIfInBounds_ne (fun h => e (hinj _ _ (by omega) (by omega) h).symm)]
      exact setD_at t d n v (fun i j h1 h2 => hinj i j (by omega) (by omega)) (fun i h => hlt i (by omega)) i (by omega)
theorem setD_off (t : Array Value) (d : Nat → Nat) : ∀ (n : Nat) (v : Nat → Value) (k : Nat), (∀ i, i < n → d i ≠ k) → (setD t d n v)[k]? = t[k]?
  | 0, _, _, _ => rfl
  | n + 1, v, k, h => by
    unfold setD
    rw [Array.getElem?_setIfInBounds_ne (h n (by omega))]
    exact setD_off t d n v k (fun i hi => h i (by omega))
theorem setD_ext (t : Array Value) (d : Nat → Nat) (n : Nat) (v : Nat → Value) (a : Array Value) (hinj : ∀ i j, i < n → j < n → d i = d j → i = j) (hlt : ∀ i, i < n → d i < t.size) (h1 : ∀ i, i < n → a[d i]? = some (v i)) (h2 : ∀ k, (∀ i, i < n → d i ≠ k) → a[k]? = t[k]?) : a = setD t d n v := by
  apply Array.ext_getElem?
  intro k
  by_cases hk : ∃ i, i < n ∧ d i = k
  · obtain ⟨i, hi, rfl⟩ := hk
    rw [h1 i hi, setD_at t d n v hinj hlt i hi]
  · have : ∀ i, i < n → d i ≠ k := fun i hi e => hk ⟨i, hi, e⟩
    rw [h2 k this, setD_off t d n v k this]
def frmD (F : Act) (d : Nat → Nat) (n : Nat) (v : Nat → Value) : Act := { F with tmps := setD F.tmps d n v }
def dstD (ops : Array Oper) (d : Nat → Nat) : Bool := (List.range ops.size).all fun i => ((ops[i]?).map fun o => o.dst == some (d i)).getD true
theorem dstD_spec {ops : Array Oper} {d : Nat → Nat} (h : dstD ops d = true) (i : Nat) (o : Oper) (ho : ops[i]? = some o) : o.dst = some (d i) := by
  have hi : i < ops.size := by
    rcases Nat.lt_or_ge i ops.size with h | h
    · exact h
    · simp [Array.getElem?_eq_none h] at ho
  have h2 := List.all_eq_true.1 h i (List.mem_range.2 hi)
  rw [ho] at h2
  simpa using h2
def injD (d : Nat → Nat) (n m : Nat) : Bool := ((List.range n).all fun i => decide (d i < m)) && (List.range n).all fun i => (List.range n).all fun j => !decide (d i = d j) || decide (i = j)
theorem injD_spec {d : Nat → Nat} {n m : Nat} (h : injD d n m = true) : (∀ i j, i < n → j < n → d i = d j → i = j) ∧ ∀ i, i < n → d i < m := by
  unfold injD at h
  rw [Bool.and_eq_true] at h
  refine ⟨fun i j hi hj e => ?_, fun i hi => ?_⟩
  · have h2 := List.all_eq_true.1 (List.all_eq_true.1 h.2 i (List.mem_range.2 hi)) j (List.mem_range.2 hj)
    simpa [e] using h2
  · simpa using List.all_eq_true.1 h.1 i (List.mem_range.2 hi)
theorem wp_region_some {P : Program} {ops : Array Oper} {Q : Exit → Act → World → Prop} {id : Nat} (hm : P.follows .mixedOrders = true) (F : Act) (d : Nat → Nat) (vals : List Value) (U : Nat → Bool) (G : Nat → Value → World → Prop) (w : World) (N : Nat)
    (hGm : ∀ i x u u', Below u.heap.size u u' → G i x u → G i x u')
    (hN : ops.size = N) (hn : vals.length = ops.size) (hsz : injD d ops.size F.tmps.size = true) (hdst : dstD ops d = true) (hback : backB ops = true)
    (step : ∀ i o, ops[i]? = some o → ∀ (a : Act) (X : Nat → Value) (w' : World), Below w.heap.size w w' → (∀ k, (∀ i, i < ops.size → d i ≠ k) → a.tmps[k]? = F.tmps[k]?) → (∀ j, hasDep o j = true → U j = false → a.tmps[d j]? = vals[j]?) → (∀ j, hasDep o j = true → U j = true → a.tmps[d j]? = some (X j) ∧ G j (X j) w') →
      wpOp P ops Q i (fun a' w'' => (U i = false → a' = a.put o.dst (vals.getD i undef)) ∧ (U i = true → ∃ x, a' = a.put o.dst x ∧ G i x w'') ∧ Below w'.heap.size w' w'') a w')
    (fin : ∀ (v : Nat → Value) w', Below w.heap.size w w' → (∀ i, i < ops.size → U i = false → vals[i]? = some (v i)) → (∀ i, i < ops.size → U i = true → G i (v i) w') → Q .normal { F with tmps := setD F.tmps d N v } w') : (Code.region id ops true).wp P Q F w := by
  subst hN
  obtain ⟨hinj, hlt'⟩ := injD_spec hsz
  have hlt : ∀ i o, ops[i]? = some o → i < ops.size := fun i o ho => by
    rcases Nat.lt_or_ge i ops.size with h | h
    · exact h
    · simp [Array.getElem?_eq_none h] at ho
  have hF : frmD F d ops.size (fun i => F.tmps.getD (d i) undef) = F := by
    apply act_ext
    · refine (setD_ext F.tmps d ops.size _ F.tmps hinj hlt' (fun i hi => ?_) (fun _ _ => rfl)).symm
      rw [Array.getElem?_eq_getElem (hlt' i hi)]
      simp [Array.getD, hlt' i hi]
    · rfl
  rw [← hF]
  refine wp_region_inv hm (frmD F d ops.size) (fun i x u => (U i = false → vals[i]? = some x) ∧ (U i = true → G i x u)) (fun u => Below w.heap.size w u) _ w hback ?_ (fun i x u u' hb h => ⟨h.1, fun e => hGm i x u u' hb (h.2 e)⟩) ?_ (Below.refl _ _).drew ?_
  · intro i o ho v x
    have hi := hlt i o ho
    rw [dstD_spec hdst i o ho]
    apply act_ext
    · refine setD_ext F.tmps d ops.size (turn v i x) _ hinj hlt' (fun j hj => ?_) (fun k hk => ?_)
      · show ((setD F.tmps d ops.size v).setIfInBounds (d i) x)[d j]? = _
        unfold turn
        by_cases e : j = i
        · subst e
          rw [Array.getElem?_setIfInBounds_self_of_lt (by rw [setD_size]; exact hlt' j hj), if_pos rfl]
        · rw [Array.getElem?_setIfInBounds_ne (fun h => e (hinj _ _ hi hj h).symm), if_neg e]
          exact setD_at _ _ _ _ hinj hlt' j hj
      · show ((setD F.tmps d ops.size v).setIfInBounds (d i) x)[k]? = _
        rw [Array.getElem?_setIfInBounds_ne (hk i hi)]
        exact setD_off _ _ _ _ _ hk
    · rfl
  · intro i o ho v w1 hw hd
    have hi := hlt i o ho
    have hj' : ∀ j, hasDep o j = true → j < ops.size := fun j hj => by
      obtain ⟨e, he, hb, rfl⟩ := hasDep_spec hj
      have := backB_spec hback i o ho e he hb
      omega
    refine wpOp_mono ?_ (step i o ho (frmD F d ops.size v) v w1 hw (fun k hk => setD_off _ _ _ _ _ hk) (fun j hj hu => ?_) (fun j hj hu => ?_))
    · rintro a' w2 ⟨h1, h2, hb⟩
      by_cases e : U i = true
      · obtain ⟨x, hx, hg⟩ := h2 e
        exact ⟨x, hx, ⟨fun h => (by rw [e] at h; cases h), fun _ => hg⟩, hb, hw.trans (hb.mono hw.size)⟩
      · have e' : U i = false := by simpa using e
        exact ⟨_, h1 e', ⟨fun _ => by rw [List.getD_eq_getElem?_getD, List.getElem?_eq_getElem (by omega)]; rfl, fun h => absurd h e⟩, hb, hw.trans (hb.mono hw.size)⟩
    · rw [(hd j hj).1 hu]
      exact setD_at _ _ _ _ hinj hlt' j (hj' j hj)
    · exact ⟨setD_at _ _ _ _ hinj hlt' j (hj' j hj), (hd j hj).2 hu⟩
  · intro v w1 hw hg
    exact fin v w1 hw (fun i hi => (hg i hi).1) (fun i hi => (hg i hi).2)
/-- The frame, once the values are known. -/
theorem setD_congr (t : Array Value) (d : Nat → Nat) : ∀ (n : Nat) (v v' : Nat → Value), (∀ i, i < n → v i = v' i) → setD t d n v = setD t d n v'
  | 0, _, _, _ => rfl
  | n + 1, v, v', h => by
    unfold setD
    rw [setD_congr t d n v v' (fun i hi => h i (by omega)), h n (by omega)]
end Go.Proofs.YtngdbhncafnliaaGreat
