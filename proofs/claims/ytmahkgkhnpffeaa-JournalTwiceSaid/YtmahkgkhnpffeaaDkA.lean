/-
  What the disk's small calls come to: Off, Room, Sectors, ask, torn, On, Limit, Cut.
-/
import Derived.Test.YtmahkgkhnpffeaaDk
import Derived.Outline
import Derived.IntWalk
import Derived.WalkSpells
import Derived.WalkLawsBesides
namespace Go.Proofs.Ytmahkgkhnpffeaa
open Go.RowKit Go.Maps

section
variable {w : World} {B bl bm : Nat} {d : Mt.Dk}

theorem room_any (h : IsDisk w B bl bm d) : Calls Try.prog 30 #[.pointer (some ⟨B, 0, none⟩)] w fun e w' => e = .returned (.int .i64 (d.room : Int)) ∧ w = w' := by
  have hc := h.c2
  clear h
  go_enter Try.func30, Try.ntmps30
  go_wp2
  go_ret
  exact ⟨rfl, rfl⟩
theorem room_nil (w : World) : Calls Try.prog 30 #[.pointer none] w fun e w' => e = .returned (.int .i64 0) ∧ w = w' := by
  go_enter Try.func30, Try.ntmps30
  go_wp2
  go_ret
  exact ⟨rfl, rfl⟩
theorem sectors_any (h : IsDisk w B bl bm d) : Calls Try.prog 20 #[.pointer (some ⟨B, 0, none⟩)] w fun e w' => e = .returned (.int .i64 (d.lasts.length : Int)) ∧ w = w' := by
  have hc := h.c0
  clear h
  go_enter Try.func20, Try.ntmps20
  go_wp2
  go_ret
  exact ⟨rfl, rfl⟩
theorem sectors_nil (w : World) : Calls Try.prog 20 #[.pointer none] w fun e w' => e = .returned (.int .i64 0) ∧ w = w' := by
  go_enter Try.func20, Try.ntmps20
  go_wp2
  go_ret
  exact ⟨rfl, rfl⟩

theorem ask_nil (i : Int) (w : World) : Calls Try.prog 46 #[.pointer none, .int .i64 i] w fun e w' => e = .returned (.int .i64 1) ∧ w = w' := by
  go_enter Try.func46, Try.ntmps46
  go_wp2
  go_ret
  exact ⟨rfl, rfl⟩
theorem ask_any (h : IsDisk w B bl bm d) (i : Int) : Calls Try.prog 46 #[.pointer (some ⟨B, 0, none⟩), .int .i64 i] w fun e w' => e = .returned (.int .i64 (d.ask i)) ∧ w = w' := by
  have h0 := h.c0
  have h3 := h.c3
  have HR := Lib.hid (show d.ask i = if d.off then 10 else if i < 0 ∨ (d.lasts.length : Int) ≤ i then 2 else 0 from rfl)
  have hn : d.lasts.length ≤ 8192 := h.ok.most
  clear h
  generalize d.ask i = r at HR ⊢
  generalize d.lasts.length = n at *
  generalize d.off = o at *
  cases o with
  | true =>
    go_enter Try.func46, Try.ntmps46
    go_wp2
    go_ret
    exact ⟨Mt.ret_int (by rw [HR.out]; rfl), rfl⟩
  | false =>
    by_cases h1 : i < 0
    · go_enter Try.func46, Try.ntmps46
      go_wp2
      go_ret
      exact ⟨Mt.ret_int (by rw [HR.out]; simp [h1]), rfl⟩
    · have h1' : decide (i < 0) = false := decide_eq_false h1
      by_cases h2 : (n : Int) ≤ i
      · go_enter Try.func46, Try.ntmps46
        go_wp2
        go_ret
        exact ⟨Mt.ret_int (by rw [HR.out]; simp [h2]), rfl⟩
      · have h2' : decide ((n : Int) ≤ i) = false := decide_eq_false h2
        go_enter Try.func46, Try.ntmps46
        go_wp2
        go_ret
        exact ⟨Mt.ret_int (by rw [HR.out]; simp [h1, h2]), rfl⟩

theorem torn_any (i : Int) (w : World) (hi : -9223372036854775808 ≤ i ∧ i ≤ 9223372036854775807) : Calls Try.prog 45 #[.int .i64 i] w fun e w' => e = .returned (.int .i64 (Mt.tornN i : Int)) ∧ w = w' := by
  have HR := Lib.hid (show (Mt.tornN i : Int) = ((i.toNat % 129 : Nat) : Int) from rfl)
  generalize (Mt.tornN i : Int) = r at HR ⊢
  go_enter Try.func45, Try.ntmps45
  go_wp2
  all_goals
    go_ret
    exact ⟨Mt.ret_int (by rw [HR.out]; omega), rfl⟩
theorem on_nil (w : World) : Calls Try.prog 32 #[.pointer none] w fun e w' => e = .returned (.tuple #[]) ∧ w = w' := by
  go_enter Try.func32, Try.ntmps32
  go_wp2
  refine bodyPost_ret (results_none rfl _ _ _) rfl ?_
  exact ⟨rfl, rfl⟩
theorem on_any (h : IsDisk w B bl bm d) : Calls Try.prog 32 #[.pointer (some ⟨B, 0, none⟩)] w fun e w' => e = .returned (.tuple #[]) ∧ IsDisk w' B bl bm d.on ∧ OnlyS [B, bl, bm] w w' := by
  have h3 := h.c3
  have h4 := h.c4
  have hf := h.f 3
  have hg := h.f 4
  have HP : Hid (IsDisk ((w.setCell ⟨B, 3, none⟩ (.bool false)).setCell ⟨B, 4, none⟩ (.int .i64 0)) B bl bm d.on ∧ OnlyS [B, bl, bm] w ((w.setCell ⟨B, 3, none⟩ (.bool false)).setCell ⟨B, 4, none⟩ (.int .i64 0))) := Lib.hid (by
    refine ⟨((h.set 3 (.bool false) { d with off := false } (h.ok.setOff false) rfl rfl rfl).set 4 (.int .i64 0) d.on h.ok.on rfl rfl rfl), ?_⟩
    exact ((OnlyS.refl _ _).setCell (by simp) _).setCell (by simp) _)
  clear h
  go_enter Try.func32, Try.ntmps32
  go_wp2
  refine bodyPost_end (results_none rfl _ _ _) rfl ?_
  exact ⟨rfl, HP.out.1, HP.out.2⟩
theorem made_all (z : Array Value) (v : Value) (n m : Nat) (hz : z.size = m) (hm : 0 < m) (h : ∀ j, j < m → z[j]! = v) : madeCells z n = Array.replicate n v := by
  unfold madeCells
  apply Array.ext
  · simp
  · intro i h1 h2
    simp [hz, h _ (Nat.mod_lt _ hm)]
theorem rep_get (m : Nat) (x : Value) (j : Nat) (hj : j < m) : ((List.replicate m x).toArray)[j]! = x := by
  rw [getElem!_pos _ _ (by simpa using hj)]
  simp
theorem madeFlat (k : Nat) : madeCells (Value.agg (Mt.cs Mt.blank).toArray).cells (k * 128) = flat (List.replicate k Mt.blank) := by
  have hb : Mt.cs Mt.blank = List.replicate 128 (Value.int .u8 0) := by simp [Mt.cs, Mt.blank]
  have hf : ∀ k, (List.replicate k Mt.blank).flatten = List.replicate (k * 128) 0 := by
    intro k
    induction k with
    | zero => rfl
    | succ k ih => rw [List.replicate_succ, List.flatten_cons, ih, Mt.blank, List.replicate_append_replicate]; congr 1; omega
  rw [hb]
  show madeCells (List.replicate 128 (Value.int .u8 0)).toArray (k * 128) = _
  rw [made_all _ (.int .u8 0) _ 128 (by rw [List.size_toArray, List.length_replicate]) (by decide) (fun j hj => rep_get 128 _ j hj)]
  unfold flat
  rw [hf]
  apply Array.ext'
  simp [Mt.cs]
theorem make_secs (k : Nat) (hk : k ≤ 8192) (w : World) : (Instr.makeSlice 42 (.int .i64 (k : Int)) (.int .i64 (k : Int))).run Try.prog w = .ok (.slice (some ⟨w.heap.size, 0, none⟩) k k) (w.alloc (.cells (flat (List.replicate k Mt.blank)) 47)) := by
  obtain ⟨i, hi, hz, hs, hb⟩ := info_parts Try.infoSec
  have h := run_make (P := Try.prog) w 42 47 i _ Try.underlying42 hi hz .i64 .i64 (k : Int) (k : Int) (by omega) (Int.le_refl _) (by rw [hb]; omega) (by omega)
  rw [Int.toNat_natCast, hs, madeFlat] at h
  exact h

theorem isDisk_new (w : World) (k : Nat) (hk : k ≤ 8192) : IsDisk (((w.alloc (.cells (flat (List.replicate k Mt.blank)) 47)).alloc (.map #[] 0)).alloc (.cells (dkCells w.heap.size (w.heap.size + 1) (Mt.Dk.new k)) 45)) (w.heap.size + 2) w.heap.size (w.heap.size + 1) (Mt.Dk.new k) := by
  have hl : (Mt.Dk.new k).lasts = List.replicate k Mt.blank := rfl
  have e1 : ∀ (u : World) (o : Obj), (u.alloc o).heap.size = u.heap.size + 1 := fun u o => by simp
  generalize h1 : w.alloc (.cells (flat (List.replicate k Mt.blank)) 47) = w1
  generalize h2 : w1.alloc (.map #[] 0) = w2
  have z1 : w1.heap.size = w.heap.size + 1 := by rw [← h1, e1]
  have z2 : w2.heap.size = w.heap.size + 2 := by rw [← h2, e1, z1]
  have b3 : ∀ o, Below w2.heap.size w2 (w2.alloc o) := fun o => (Below.refl _ _).alloc (Nat.le_refl _) _
  have b2 : Below w1.heap.size w1 w2 := by rw [← h2]; exact (Below.refl _ _).alloc (Nat.le_refl _) _
  refine ⟨Mt.Dk.ok_new k hk, ?_, ?_, .map [], ?_, Waits.none k⟩
  · rw [← z2]; exact heap_alloc_new _ _
  · rw [(b3 _).block _ (by omega), b2.block _ (by omega), ← h1]
    exact heap_alloc_new _ _
  · refine ownsMap_block (w := w2) ?_ ((b3 _).block _ (by omega))
    rw [← z1, ← h2]
    exact World.ownsMap_made _ _ _ _
set_option maxRecDepth 100000 in
theorem new_k (n z : Int) (k : Nat) (hk2 : k ≤ 8192) (hz : z = (k : Int)) (hn : (n = z ∧ 0 ≤ z ∧ z ≤ 8192) ∨ (n < 0 ∧ z = 0) ∨ (8192 < n ∧ z = 8192)) (w : World) : Calls Try.prog 9 #[.int .i64 n] w fun e w' => e = .returned (.pointer (some ⟨w.heap.size + 2, 0, none⟩)) ∧ IsDisk w' (w.heap.size + 2) w.heap.size (w.heap.size + 1) (Mt.Dk.new k) ∧ Below w.heap.size w w' := by
  have HM : ∀ u : World, (Instr.makeSlice 42 (.int .i64 z) (.int .i64 z)).run Try.prog u = .ok (.slice (some ⟨u.heap.size, 0, none⟩) k k) (u.alloc (.cells (flat (List.replicate k Mt.blank)) 47)) := fun u => by rw [hz]; exact make_secs k hk2 u
  have hd : dkCells w.heap.size (w.heap.size + 1) (Mt.Dk.new k) = #[.slice (some ⟨w.heap.size, 0, none⟩) k k, .map (some (w.heap.size + 1)), .int .i64 z, .bool false, .int .i64 0, .int .u64 0, .int .i64 0, .int .i64 0] := by unfold dkCells; simp [Mt.Dk.new, hz]
  have hp := isDisk_new w k hk2
  rw [hd] at hp
  have HP := Lib.hid hp
  have hmm := @run_makeMap Try.prog
  have HB : ∀ a b c : Obj, Below w.heap.size w (((w.alloc a).alloc b).alloc c) := fun a b c => (((Below.refl _ w).alloc (Nat.le_refl _) a).alloc (by simp) b).alloc (by simp; omega) c
  have HB' := Lib.hid HB
  clear hz hd hp HB
  generalize Mt.Dk.new k = D at HP ⊢
  generalize flat (List.replicate k Mt.blank) = F at HM HP
  rcases hn with ⟨rfl, h1, h2⟩ | ⟨h1, rfl⟩ | ⟨h1, rfl⟩
  all_goals
    go_enter Try.func9, Try.ntmps9
    go_wp2
    go_ret
    exact ⟨rfl, HP.out, HB'.out _ _ _⟩
theorem new_any (n : Int) (w : World) : Calls Try.prog 9 #[.int .i64 n] w fun e w' => e = .returned (.pointer (some ⟨w.heap.size + 2, 0, none⟩)) ∧ IsDisk w' (w.heap.size + 2) w.heap.size (w.heap.size + 1) (Mt.Dk.new (min n.toNat 8192)) ∧ Below w.heap.size w w' :=
  new_k n (min n.toNat 8192 : Nat) (min n.toNat 8192) (Nat.min_le_right _ _) rfl (by omega) w
theorem IsDisk.setCut (h : IsDisk w B bl bm d) (k a : Nat) (z b c : Int) (hz : z = (k : Int)) (hk : k ≤ 9223372036854775807) (ha : a < 18446744073709551616) (hb : -9223372036854775808 ≤ b ∧ b ≤ 9223372036854775807) (hc : -9223372036854775808 ≤ c ∧ c ≤ 9223372036854775807) :
    IsDisk ((((w.setCell ⟨B, 4, none⟩ (.int .i64 z)).setCell ⟨B, 5, none⟩ (.int .u64 (a : Int))).setCell ⟨B, 6, none⟩ (.int .i64 b)).setCell ⟨B, 7, none⟩ (.int .i64 c)) B bl bm (d.cutAt k a b c) := by
  subst hz
  have o := h.ok
  have o1 : ({ d with cut := k } : Mt.Dk).Ok := o.setCut k hk
  have o2 : ({ d with cut := k, keep := a } : Mt.Dk).Ok := ⟨o.len, o.most, o.lasts, o.waits, o.room, hk, ha, o.torn, o.at'⟩
  have o3 : ({ d with cut := k, keep := a, torn := b } : Mt.Dk).Ok := ⟨o.len, o.most, o.lasts, o.waits, o.room, hk, ha, hb, o.at'⟩
  have o4 : (d.cutAt k a b c).Ok := ⟨o.len, o.most, o.lasts, o.waits, o.room, hk, ha, hb, hc⟩
  exact (((h.set 4 _ _ o1 rfl rfl rfl).set 5 _ _ o2 rfl rfl rfl).set 6 _ _ o3 rfl rfl rfl).set 7 _ _ o4 rfl rfl rfl
end
end Go.Proofs.Ytmahkgkhnpffeaa
