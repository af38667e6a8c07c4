/-
  A slice of bytes of the call's own, told by its cells; appending one byte; what []byte(s) lays.
-/
import Derived.Test.YtpdionmecflibaaDoorEnd
import Derived.Lib.ConvBytes
import Derived.Laws.IdiomCopy
namespace Go.Proofs.YtpdionmecflibaaDoor
open Go.RowKit

/-- The slice holds these bytes, in a block that is not below the base; its spare places can be written. -/
def OwnB (w : World) (base : Nat) (v : Value) (n : Nat) (L : List UInt8) : Prop :=
  L.length = n ∧ ∃ g cap, v = .slice (some ⟨g, 0, none⟩) n cap ∧ base ≤ g ∧ g < w.heap.size ∧ n ≤ cap ∧ (∀ i, i < n → w.cell? ⟨g, i, none⟩ = some (.int .u8 ((L.getD i 0).toNat : Int))) ∧
    (∀ j, n ≤ j → j < cap → (w.cell? ⟨g, j, none⟩).isSome = true ∧ w.frozen? ⟨g, j, none⟩ = false)

theorem OwnB.of_own {w : World} {base n : Nat} {v : Value} {L : List UInt8} (h : w.ownsRow base 5 1 v n (Mt.cs L)) (hn : 0 < n) : OwnB w base v n L := by
  have hl : L.length = n := by have := h.1; rw [Mt.cs_length] at this; omega
  rcases h.2 with ⟨_, h0⟩ | ⟨g, cap, cur, rfl, hb, hg, hc1, hc2, hs, ht⟩
  · omega
  · refine ⟨hl, g, cap, rfl, hb, (h.lt g rfl).2, hc1, fun i hi => ?_, fun j h1 h2 => ⟨?_, frozen_of_row _ _ _ _ _ hg⟩⟩
    · rw [h.cellAt i (by omega)]
      simp [Mt.cs, List.getD, List.getElem?_eq_getElem (show i < L.length by omega)]
    · rw [cell_of_row _ _ _ _ _ _ hg]
      simp [show j < cur.size by omega]
theorem OwnB.form {w : World} {base n : Nat} {v : Value} {L : List UInt8} (h : OwnB w base v n L) : ∃ g cap, v = .slice (some ⟨g, 0, none⟩) n cap := by
  obtain ⟨_, g, cap, e, _⟩ := h
  exact ⟨g, cap, e⟩
theorem OwnB.below {w u : World} {base n : Nat} {v : Value} {L : List UInt8} (h : OwnB w base v n L) (hb : Below w.heap.size w u) : OwnB u base v n L := by
  obtain ⟨hl, g, cap, e, hbg, hg, hc, h1, h2⟩ := h
  refine ⟨hl, g, cap, e, hbg, Nat.lt_of_lt_of_le hg hb.size, hc, fun i hi => ?_, fun j hj1 hj2 => ?_⟩
  · rw [hb.cell (p := ⟨g, i, none⟩) hg]; exact h1 i hi
  · rw [hb.cell (p := ⟨g, j, none⟩) hg]
    refine ⟨(h2 j hj1 hj2).1, ?_⟩
    have h3 := (h2 j hj1 hj2).2
    unfold World.frozen? at h3 ⊢
    rw [hb.block g hg]; exact h3

theorem cell_new1 (w : World) (v : Value) (t : TypeId) : (w.alloc (.cells #[v] t)).cell? ⟨w.heap.size, 0, none⟩ = some v := by
  rw [cell_of_row _ _ _ _ _ _ (heap_alloc_new w _)]; rfl
theorem below_setCells' {B b : Nat} {a : World} (hb : B ≤ b) : ∀ (vs : List Value) (o : Nat) (w : World), Below B a w → Below B a (w.setCells b o vs)
  | [], _, _, h => h
  | v :: r, o, w, h => below_setCells' hb r (o + 1) _ (h.setCell (by exact hb) v)

theorem wpList_append_B (w : World) {ops : Array Oper} {rest : List Oper} {o : Oper} {a : Act} {Q : Exit → Act → World → Prop}
    (hg : o.guard = none) (s x : Operand) (hop : o.op = Op.call { callee := Callee.builtin Builtin.append, args := #[s, x], argTypes := #[46, 46] })
    (base n : Nat) (L : List UInt8) (v : Value) (hs : a.eval s = v) (h : OwnB w base v n L) (ad : Addr) (y : Int) (c : UInt8) (hy : y = (c.toNat : Int)) (cp : Nat) (hx : a.eval x = .slice (some ad) 1 cp) (hc : w.cell? ad = some (.int .u8 y)) (hbase : base ≤ w.heap.size) (hn : n ≤ 1099511627776)
    (hK : ∀ v' w', OwnB w' base v' (n + 1) (L ++ [c]) → Below base w w' → wpList Tryd.prog ops Q rest (a.put o.dst v') w') :
    wpList Tryd.prog ops Q (o :: rest) a w := by
  obtain ⟨i0, hi, hz0, hz1, hz2⟩ := info_parts Tryd.info5
  obtain ⟨hl, g, cap, rfl, hbg, hgl, hcn, h1, h2⟩ := h
  subst hy
  have hget : ∀ i, i < n → (L ++ [c]).getD i 0 = L.getD i 0 := fun i hi => by simp only [List.getD]; rw [List.getElem?_append_left (by omega)]
  have hlast : (L ++ [c]).getD n 0 = c := by simp only [List.getD]; rw [List.getElem?_append_right (by omega), hl]; simp
  refine wpList_append_arg w hg s x 46 hop 5 i0 (.int .u8 0) 1 1 Tryd.underlying46 hi hz0 hz1 hz2 rfl (by decide) g 0 n cap (Mt.cs L) hs (by rw [Mt.cs_length]; omega) (fun j u hu => ?_) ad 1 cp [.int .u8 (c.toNat : Int)] hx rfl (fun j u hu => ?_) (by simp [Value.oneCell']) (fun hr j hj => ?_) (by unfold maxLen; omega) (by omega) (fun hr => ?_) (fun hr v' w' ho hgr => ?_)
  · obtain ⟨hj, rfl⟩ := Mt.cs_getD _ _ _ hu
    rw [Nat.zero_add]; exact h1 j (by omega)
  · obtain ⟨b, off, sp⟩ := ad
    cases j with
    | zero =>
      have e : (⟨b, off, sp⟩ : Addr).add 0 = ⟨b, off, sp⟩ := by unfold Addr.add; split <;> simp_all
      rw [e, hc]; simpa using hu
    | succ j => simp at hu
  · obtain rfl : j = 0 := by simpa using hj
    have e : 0 + n * 1 + 0 = n := by omega
    rw [e]; exact h2 n (Nat.le_refl _) (by omega)
  · have e : 0 + n * 1 = n := by omega
    rw [e]
    have hsome := (h2 n (Nat.le_refl _) (by omega)).1
    have hbel : Below base w (w.setCells g n [.int .u8 (c.toNat : Int)]) := below_setCells' hbg _ _ _ (Below.refl _ _)
    refine hK _ _ ⟨by simp [hl], g, cap, rfl, hbg, Nat.lt_of_lt_of_le hgl hbel.size, by omega, fun i hi => ?_, fun j hj1 hj2 => ⟨?_, ?_⟩⟩ hbel
    · by_cases hin : i < n
      · rw [World.cell?_setCells_out g _ _ _ ⟨g, i, none⟩ (fun _ _ => .inl hin), hget i hin]; exact h1 i hin
      · obtain rfl : i = n := by omega
        rw [hlast]
        have h3 := World.cell?_setCells_in g [.int .u8 (c.toNat : Int)] i w (fun j hj => by
          obtain rfl : j = 0 := by simpa using hj
          exact hsome) 0 (by simp)
        simpa using h3
    · rw [World.cell?_setCells_out g _ _ _ ⟨g, j, none⟩ (fun _ _ => .inr (by simp; omega))]; exact (h2 j (by omega) hj2).1
    · rw [World.frozen?_setCells]; exact (h2 j (by omega) hj2).2
  · have e : Mt.cs L ++ [.int .u8 (c.toNat : Int)] = Mt.cs (L ++ [c]) := by rw [Mt.cs_append]; rfl
    rw [e] at ho
    exact hK v' w' (OwnB.of_own (own_mono ho hbase) (by omega)) ((Below.refl base w).grown hgr hbase (fun k hk => by cases hk))

theorem conv_B (s : ByteArray) (w : World) (hs : s.size ≤ 1099511627776) : ∃ (v : Value) (w1 : World), (convert 9 46 (.string s)).run Tryd.prog w = .ok v w1 ∧ OwnB w1 w.heap.size v s.size s.data.toList ∧ Below w.heap.size w w1 := by
  refine ⟨_, Lib.bytesWorld w 5 s, Lib.run_convert_string_bytes w 9 46 5 s Tryd.underlying9 Tryd.underlying46 Tryd.underlying5, ⟨rfl, w.heap.size, grownCap w s.size 0 5, rfl, Nat.le_refl _, by rw [Lib.bytesWorld_size]; omega, grownCap_ge _ _ _ _, fun i hi => Lib.bytesWorld_cell w 5 s i hi, fun j h1 h2 => ?_⟩, ?_⟩
  · have hcap := grownCap_ge w s.size 0 5
    have hsz : (Lib.bytesCells w 5 s).size = grownCap w s.size 0 5 := by
      unfold Lib.bytesCells
      rw [Array.size_append, Array.size_map, Array.size_replicate]
      have : s.data.size = s.size := rfl
      omega
    refine ⟨?_, ?_⟩
    · rw [cell_of_row _ _ _ _ _ _ (Lib.bytesWorld_at_new w 5 s)]
      simp [show j < (Lib.bytesCells w 5 s).size by omega]
    · unfold World.frozen?
      rw [Lib.bytesWorld_at_new]
      simp; omega
  · refine ⟨rfl, rfl, rfl, ?_, fun k hk => Lib.bytesWorld_at_old w 5 s k hk⟩
    rw [Lib.bytesWorld_size]; omega

end Go.Proofs.YtpdionmecflibaaDoor
