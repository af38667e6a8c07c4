/-
  What the call dn.ask comes to.
-/
import Derived.Test.YtfogcgegllhmmaaGreatDoorDnL
namespace Go.Proofs.YtfogcgegllhmmaaGreatDoor
open Go.RowKit

set_option maxRecDepth 100000 in
set_option maxHeartbeats 1000000 in
theorem ask_any {w : World} {v : Value} {d : List (List Mt.Av)} (hv : IsDn w v d) :
    Calls Tryz.prog 92 #[v] w fun e w' => e = .returned (.int .i64 (Mt.askD d)) ∧ Below w.heap.size w w' := by
  obtain ⟨a, cap, rfl, hn, hcap, hcell⟩ := hv
  obtain ⟨R, hR⟩ : ∃ R, Mt.askF 0 d = R := ⟨_, rfl⟩
  have HR0 := Lib.hid hR
  have HD : Hid (Mt.askD d = if R ≠ 0 then R else if d.any Mt.longR then 5 else 0) := Lib.hid (by rw [← hR]; rfl)
  have HX : Hid (∀ j (hj : j < d.length), ∃ b off, a = some ⟨b, off, none⟩ ∧ ∃ x, IsAvs w x d[j] ∧ ∀ u, Below w.heap.size w u → u.cell? ⟨b, off + j, none⟩ = some x) := by
    intro j hj
    rcases hcell with h | ⟨b, off, h1, h2, h3⟩
    · subst h; simp at hj
    · obtain ⟨x, h4, h5⟩ := h3 j hj
      exact ⟨b, off, h1, x, h5, fun u hu => (hu.cell (p := ⟨b, off + j, none⟩) h2).trans h4⟩
  obtain ⟨Z, hZ⟩ : ∃ Z, Mt.askD d = Z := ⟨_, rfl⟩
  rw [hZ] at HD ⊢
  clear hcell hcap hR hZ
  go_enter Tryz.func92, Tryz.ntmps92
  go_wp2_with fail
  go_loopw [3, 9] (fun l i wr => ∃ (k : Nat) (L : Bool), i = .int .i64 k ∧ l = .bool L ∧ k ≤ d.length ∧ k ≤ 32 ∧ Hid ((d.take k).any Mt.longR = L) ∧ Hid (Mt.askF k (d.drop k) = R) ∧ Hid (Below w.heap.size w wr))
    (fun _ i _ => d.length - (intOf i).toNat)
  case atStart => exact ⟨0, false, rfl, rfl, Nat.zero_le _, by omega, Lib.hid rfl, HR0, Lib.hid (Below.refl _ _)⟩
  case round =>
    obtain ⟨k, L, rfl, rfl, hk, hk32, HL, HR, HB⟩ := hrel
    by_cases hlt : k < d.length
    · obtain ⟨b, off, rfl, x, hx, hload⟩ := HX.out k hlt
      have hl0 := hload wr HB.out
      have HDR := Lib.hid (List.drop_eq_getElem_cons hlt)
      have HTK : Hid ((d.take (k + 1)).any Mt.longR = (L || Mt.longR d[k])) := Lib.hid (by
        rw [List.take_succ_eq_append_getElem hlt, List.any_append, HL.out]; simp)
      have HA := Lib.hid (askRDN_any (hx.below HB.out))
      have HC := Lib.hid (fun (u : World) (hu : Below w.heap.size w u) => containsAsk_any (hx.below hu))
      obtain ⟨q, hq⟩ : ∃ q, Mt.longR d[k] = q := ⟨_, rfl⟩
      have HC2 : Hid (∀ (u : World), Below w.heap.size w u → Calls Tryz.prog 117 #[x, .func (.func 125) #[] #[]] u fun e w' => e = .returned (.bool q) ∧ Below u.heap.size u w') := Lib.hid (fun u hu => by rw [← hq]; exact HC.out u hu)
      rw [hq] at HTK
      obtain ⟨z, hz⟩ : ∃ z, ((k : Int) == 32) = z := ⟨_, rfl⟩
      have hz32 : decide (k = 32) = z := by rw [← hz, Bool.eq_iff_iff]; simp; omega
      have HHK := Lib.hid (And.intro hk32 hk)
      obtain ⟨xa, xc, rfl, _⟩ := hx
      clear hload hq HC hk32
      cases z
      · have hk' : k ≠ 32 := by simpa using hz32
        obtain ⟨e, he⟩ : ∃ e, Mt.askR d[k] = e := ⟨_, rfl⟩
        rw [he] at HA
        by_cases he0 : e = 0
        · subst he0
          have HF : Hid (Mt.askF (k + 1) (d.drop (k + 1)) = R) := Lib.hid (by rw [← HR.out, HDR.out]; simp [Mt.askF, hk', he])
          have HK' := Lib.hid hk'
          clear hk' hz32 he
          cases L
          · go_wp2_with fail
            refine (HA.out).mono ?_
            rintro e w2 ⟨rfl, hb⟩
            have HB2 := Lib.hid (HB.out.trans (hb.mono HB.out.size))
            clear hb
            go_wp2_with fail
            refine (HC2.out _ HB2.out).mono ?_
            rintro e w3 ⟨rfl, hb⟩
            have HB3 := Lib.hid (HB2.out.trans (hb.mono HB2.out.size))
            clear hb
            go_wp2_with fail
            go_roundw
            case rel => exact ⟨k + 1, q, by go_num, rfl, by omega, by have := HHK.out; have := HK'.out; omega, by rw [HTK.out]; exact Lib.hid rfl, HF, HB3⟩
            case measure => simp [intOf]; omega
          · go_wp2_with fail
            refine (HA.out).mono ?_
            rintro e w2 ⟨rfl, hb⟩
            have HB2 := Lib.hid (HB.out.trans (hb.mono HB.out.size))
            clear hb
            go_wp2_with fail
            go_roundw
            case rel => exact ⟨k + 1, true, by go_num, rfl, by omega, by have := HHK.out; have := HK'.out; omega, by rw [HTK.out]; exact Lib.hid rfl, HF, HB2⟩
            case measure => simp [intOf]; omega
        · have HF : Hid (Z = e) := Lib.hid (by
            have : R = e := by rw [← HR.out, HDR.out]; simp [Mt.askF, hk', he, he0]
            rw [HD.out, this, if_pos he0])
          have hei : ((e : Int) != 0) = true := by simp; omega
          clear hk' hz32 he he0
          go_wp2_with fail
          refine (HA.out).mono ?_
          rintro x w2 ⟨rfl, hb⟩
          have HB2 := Lib.hid (HB.out.trans (hb.mono HB.out.size))
          clear hb
          go_wp2_with fail
          go_ret
          exact ⟨Mt.ret_int (by rw [HF.out]), HB2.out⟩
      · have hk' : k = 32 := by simpa using hz32
        have HF : Hid (Z = 9) := Lib.hid (by
          have : R = 9 := by rw [← HR.out, HDR.out]; simp [Mt.askF, hk']
          rw [HD.out, this]; rfl)
        clear hk' hz32
        go_wp2_with fail
        go_ret
        exact ⟨Mt.ret_int (by rw [HF.out]; rfl), HB.out⟩
    · have HF : Hid (Z = if L then 5 else 0) := Lib.hid (by
        have h1 : R = 0 := by rw [← HR.out, List.drop_eq_nil_of_le (by omega)]; simp [Mt.askF]
        have h2 : d.any Mt.longR = L := by have := HL.out; rwa [List.take_of_length_le (by omega)] at this
        rw [HD.out, h1, h2]; rfl)
      clear hk32
      cases L
      · go_wp2_with fail
        go_ret
        exact ⟨Mt.ret_int (by rw [HF.out]; rfl), HB.out⟩
      · go_wp2_with fail
        go_ret
        exact ⟨Mt.ret_int (by rw [HF.out]; rfl), HB.out⟩
end Go.Proofs.YtfogcgegllhmmaaGreatDoor
