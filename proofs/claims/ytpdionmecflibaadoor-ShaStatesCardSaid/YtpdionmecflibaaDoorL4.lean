/-
  Loop 4 of the document's Sum256: the blocks.
-/
import Derived.Test.YtpdionmecflibaaDoorRCut
import Derived.Test.YtpdionmecflibaaDoorL5
import Derived.Test.YtpdionmecflibaaDoorL6
import Derived.Laws.AppendOwn
namespace Go.Proofs.YtpdionmecflibaaDoor
open Go.RowKit

theorem own_empty (w : World) : (w.alloc (.cells #[] 53)).ownsRow w.heap.size 53 1 (.slice (some ⟨w.heap.size, 0, none⟩) 0 0) 0 [] :=
  ⟨rfl, .inr ⟨w.heap.size, 0, #[], rfl, Nat.le_refl _, heap_alloc_new w _, by decide, by decide, rfl, rfl⟩⟩

set_option maxHeartbeats 4000000 in
set_option maxRecDepth 1000000 in
theorem loop4 {x0 x1 x2 x4 x5 x6 x9 x10 x12 x13 x14 x15 x16 x17 x18 x19 x20 x21 x22 x23 x24 x25 x26 x27 x28 x29 x30 x31 x32 x33 x34 x35 x36 x37 x38 x39 x40 x41 x42 x43 x44 x45 x46 x47 x48 x49 x50 x51 x52 x53 x54 x55 x56 x57 x58 x59 x60 x61 x62 x63 x64 x65 x66 x67 x68 x69 x70 x71 x72 x73 x74 x75 x76 x77 x78 x79 x80 x81 x82 x83 x84 x85 x86 x87 x88 x89 x90 x91 x92 x93 x94 x95 x96 x97 x98 x99 x100 x101 x102 x103 x104 x105 x106 x107 x108 x109 x110 x111 x112 x113 x114 x115 x116 x117 x118 x119 x120 x121 x122 x123 x124 x125 x126 x127 x128 x129 x130 x131 x132 x133 x134 x135 x136 x137 x138 x139 x140 x141 x142 x143 x144 x145 x146 x147 x148 x149 x150 x151 x152 x153 x154 x155 x156 x157 x158 x159 x160 x161 x162 x163 x164 x165 x166 x167 x168 x169 x170 x171 x172 x173 x174 x175 x176 x177 x178 x179 x180 x181 x182 x183 x184 x185 x186 x187 x188 x189 x190 x191 x192 x193 x194 x195 x196 x197 x198 x199 x200 x201 x202 x203 x204 x205 x206 x207 x208 x209 x210 x211 x212 x213 x214 x215 x216 x217 x218 x219 x220 x221 x222 x223 x224 x225 x226 x227 x228 x229 x230 x231 x232 : Value} (g q cp gh ch gk ck : Nat) (V : Mt.W8) (L : List UInt8) (w5 : World) (K : Act → World → Prop) (Q : Exit → Act → World → Prop)
    (hV : V.Ok) (hq : 64 * q ≤ 1099511627776) (hg : g < w5.heap.size) (hgk : gk < w5.heap.size) (hgh : gh < w5.heap.size) (n1 : g ≠ gh) (n2 : gk ≠ gh)
    (eb : ∀ i, i < 64 * q → w5.cell? ⟨g, i, none⟩ = some (.int .u8 ((L.getD i 0).toNat : Int))) (ek : ∀ i, i < 64 → w5.cell? ⟨gk, i, none⟩ = some (.int .u32 ((Mt.K.getD i 0 : Nat) : Int)))
    (h0 : H8 w5 gh V)
    (hfin : ∀ (y11 y12 y13 y14 y15 y16 y17 y18 y72 y73 y74 y75 y76 y77 y78 y79 y80 y81 y82 y83 y84 y85 y86 y87 y88 y89 y90 y91 y92 y93 y94 y95 y96 y97 y98 y99 y100 y101 y102 y103 y104 y105 y106 y107 y108 y109 y110 y111 y112 y113 y114 y115 y116 y117 y118 y119 y120 y121 y122 y123 y124 y125 y126 y127 y128 y129 y130 y131 y132 y133 y134 y135 y136 y137 y138 y139 y140 y141 y142 y143 y144 y145 y146 y147 y148 y149 y150 y151 y152 y153 y154 y155 y156 y157 y158 y159 y160 y161 y162 y163 y164 y165 y166 y167 y168 y169 y170 y171 y172 y173 y174 y175 y176 y177 y178 y179 y180 y181 y182 y183 y184 y185 y186 y187 y188 y189 y190 y191 y192 y193 y194 y195 y196 y197 y198 y199 y200 : Value) (u : World), H8 u gh (Mt.hb V L q) → Only gh w5 u → K ⟨#[x0, x1, x2, Value.slice (some ⟨g, 0, none⟩) (64 * q) cp, x4, x5, x6, Value.slice (some ⟨gh, 0, none⟩) 8 ch, Value.slice (some ⟨gk, 0, none⟩) 64 ck, x9, x10, y11, y12, y13, y14, y15, y16, y17, y18, x19, x20, x21, x22, x23, x24, x25, x26, x27, x28, x29, x30, x31, x32, x33, x34, x35, x36, x37, x38, x39, x40, x41, x42, x43, x44, x45, x46, x47, x48, x49, x50, x51, x52, x53, x54, x55, x56, x57, x58, x59, x60, x61, x62, x63, x64, x65, x66, x67, x68, x69, x70, x71, y72, y73, y74, y75, y76, y77, y78, y79, y80, y81, y82, y83, y84, y85, y86, y87, y88, y89, y90, y91, y92, y93, y94, y95, y96, y97, y98, y99, y100, y101, y102, y103, y104, y105, y106, y107, y108, y109, y110, y111, y112, y113, y114, y115, y116, y117, y118, y119, y120, y121, y122, y123, y124, y125, y126, y127, y128, y129, y130, y131, y132, y133, y134, y135, y136, y137, y138, y139, y140, y141, y142, y143, y144, y145, y146, y147, y148, y149, y150, y151, y152, y153, y154, y155, y156, y157, y158, y159, y160, y161, y162, y163, y164, y165, y166, y167, y168, y169, y170, y171, y172, y173, y174, y175, y176, y177, y178, y179, y180, y181, y182, y183, y184, y185, y186, y187, y188, y189, y190, y191, y192, y193, y194, y195, y196, y197, y198, y199, y200, x201, x202, x203, x204, x205, x206, x207, x208, x209, x210, x211, x212, x213, x214, x215, x216, x217, x218, x219, x220, x221, x222, x223, x224, x225, x226, x227, x228, x229, x230, x231, x232], []⟩ u) :
    Code.wp Tryd.prog (Code.loop (rbody 3)) (Exit.inBlock 6 (Exit.then K Q)) ⟨#[x0, x1, x2, Value.slice (some ⟨g, 0, none⟩) (64 * q) cp, x4, x5, x6, Value.slice (some ⟨gh, 0, none⟩) 8 ch, Value.slice (some ⟨gk, 0, none⟩) 64 ck, x9, x10, Value.int .i64 0, x12, x13, x14, x15, x16, x17, x18, x19, x20, x21, x22, x23, x24, x25, x26, x27, x28, x29, x30, x31, x32, x33, x34, x35, x36, x37, x38, x39, x40, x41, x42, x43, x44, x45, x46, x47, x48, x49, x50, x51, x52, x53, x54, x55, x56, x57, x58, x59, x60, x61, x62, x63, x64, x65, x66, x67, x68, x69, x70, x71, x72, x73, x74, x75, x76, x77, x78, x79, x80, x81, x82, x83, x84, x85, x86, x87, x88, x89, x90, x91, x92, x93, x94, x95, x96, x97, x98, x99, x100, x101, x102, x103, x104, x105, x106, x107, x108, x109, x110, x111, x112, x113, x114, x115, x116, x117, x118, x119, x120, x121, x122, x123, x124, x125, x126, x127, x128, x129, x130, x131, x132, x133, x134, x135, x136, x137, x138, x139, x140, x141, x142, x143, x144, x145, x146, x147, x148, x149, x150, x151, x152, x153, x154, x155, x156, x157, x158, x159, x160, x161, x162, x163, x164, x165, x166, x167, x168, x169, x170, x171, x172, x173, x174, x175, x176, x177, x178, x179, x180, x181, x182, x183, x184, x185, x186, x187, x188, x189, x190, x191, x192, x193, x194, x195, x196, x197, x198, x199, x200, x201, x202, x203, x204, x205, x206, x207, x208, x209, x210, x211, x212, x213, x214, x215, x216, x217, x218, x219, x220, x221, x222, x223, x224, x225, x226, x227, x228, x229, x230, x231, x232], []⟩ w5 := by
  obtain ⟨i8, hi, hz0, hz1, hz2⟩ := info_parts Tryd.infoU32
  have HFIN := Lib.hid hfin
  have HN := Lib.hid (And.intro n1 n2)
  have HS := Lib.hid (And.intro hg (And.intro hgk hgh))
  have HEB := Lib.hid eb
  have HEK := Lib.hid ek
  have H0 := Lib.hid h0
  have HV := Lib.hid hV
  clear hfin n1 n2 hg hgk hgh eb ek h0 hV
  conv => zeta
  conv => arg 2; arg 1; whnf
  go_loopw [11] (fun a wr => ∃ t T : Nat, t ≤ q ∧ a = .int .i64 (T : Int) ∧ T = 64 * t ∧ Hid (Only gh w5 wr) ∧ Hid (H8 wr gh (Mt.hb V L t))) (fun a _ => 64 * q - (intOf a).toNat)
  case atStart => exact ⟨0, 0, by omega, rfl, rfl, Lib.hid (Only.refl _ _), H0⟩
  case round =>
    obtain ⟨t, T, ht, rfl, hT, HON, HH⟩ := hrel
    have HT := Lib.hid hT
    by_cases htq : t < q
    · have htq' : (T : Int) < 64 * (q : Int) := by omega
      have HTQ := Lib.hid (show T + 64 ≤ 64 * q by omega)
      clear hT
      obtain ⟨blk, hblk⟩ : ∃ blk, (L.drop T).take 64 = blk := ⟨_, rfl⟩
      have HBL := Lib.hid (show ∀ i, i < 64 → blk.getD i 0 = L.getD (T + i) 0 from fun i hi => by
        rw [← hblk]; simp only [List.getD]; rw [List.getElem?_take, if_pos hi, List.getElem?_drop])
      have HBK := Lib.hid hblk
      clear hblk
      go_wp2_with fail
      have hsz := HON.out.size
      refine loop5 g (64 * q) cp T blk wr _ _ HTQ.out hq (Nat.lt_of_lt_of_le HS.out.1 hsz) (fun i hi => by
        rw [HON.out.cell (p := ⟨g, T + i, none⟩) HS.out.1 HN.out.1, HEB.out _ (by have := HTQ.out; omega), HBL.out i hi]) ?_
      intro y12 y13 y14 y15 y78 y79 y80 y81 y82 y83 y84 y85 y86 y87 y88 y89 y90 y91 y92 y93 y94 y95 y96 y97 y98 y99 y100 y101 y102 y103 y104 y105 y106 y107 y108 y109 y110 y111 y112 y113 y114 y115 y116 y117 y118 y119 y120 y121 y122 y123 y124 y125 y126 y127 y128 y129 y130 y131 y132 y133 y134 y135 y136 y137 y138 y139 y140 y141 y142 y143 y144 y145 y146 y147 y148 y149 y150 y151 y152 y153 y154 y155 y156 y157 y158 y159 y160 y161 y162 y163 y164 y165 y166 y167 y168 y169 u1 ho1 hb1
      obtain ⟨gw, cw, rfl⟩ := own_form ho1 (by decide)
      have HW1 := Lib.hid ho1
      have HB1 := Lib.hid hb1
      have HON1 := Lib.hid (HON.out.then hb1)
      have HH1 := Lib.hid (show H8 u1 gh (Mt.hb V L t) from by
        obtain ⟨cur, h1, h2⟩ := HH.out
        exact ⟨cur, by rw [hb1.block _ (Nat.lt_of_lt_of_le HS.out.2.2 hsz)]; exact h1, h2⟩)
      clear ho1 hb1 HON HH
      have HNEWS := Lib.hid (show ∀ A, ∀ (j : Nat) u, (Mt.c32 (Mt.hb V L t).list)[j]? = some u → (u1.alloc A).cell? (Addr.add ⟨gh, 0, none⟩ j) = some u from fun A j u hj => by
        have h8 := HH1.out.has.below ((Below.refl u1.heap.size u1).alloc (Nat.le_refl _) A)
        have hl : (Mt.c32 (Mt.hb V L t).list).length = 8 := rfl
        have hj8 : j < 8 := by
          rcases Nat.lt_or_ge j 8 with h | h
          · exact h
          · rw [List.getElem?_eq_none (by rw [hl]; exact h)] at hj; cases hj
        have h1 := h8 j hj8
        rw [Mt.c32_get _ _ (show j < (Mt.hb V L t).list.length from hj8)] at hj
        obtain rfl := Option.some.inj hj
        have e : Addr.add ⟨gh, 0, none⟩ j = ⟨gh, j, none⟩ := by simp [Addr.add]; omega
        rw [e]; exact h1)
      have HONE := Lib.hid (show ∀ u ∈ Mt.c32 (Mt.hb V L t).list, u.oneCell' = true from by
        intro u hu
        simp only [Mt.c32, List.mem_map] at hu
        obtain ⟨x, _, rfl⟩ := hu
        rfl)
      conv => zeta
      go_wp2_with (at_builtin; refine wpList_append_own _ rfl _ _ 52 rfl u1.heap.size 53 i8 (.int .u32 0) 1 4 Tryd.underlying52 hi hz0 hz1 hz2 rfl (by decide) _ _ _ rfl (own_empty u1) ⟨gh, 0, none⟩ 8 ch (Mt.c32 (Mt.hb V L t).list) rfl rfl (HNEWS.out _) HONE.out (by decide) (by decide) (by simp) ?_; intro v2 w2 hown2 hgr2 _)
      have ho2 : w2.ownsRow u1.heap.size 53 1 v2 8 (Mt.c32 (Mt.hb V L t).list) := hown2
      have hb2 : Below u1.heap.size u1 w2 := ((Below.refl u1.heap.size u1).alloc (Nat.le_refl _) _).grown hgr2 (by simp) (fun j hj => ((own_empty u1).lt j hj).1)
      clear hown2 hgr2
      obtain ⟨gv, cv, rfl⟩ := own_form ho2 (by decide)
      have HV2 := Lib.hid (show Has8 w2 gv (Mt.hb V L t) from fun i hi => by
        rw [ho2.cellAt i (by omega)]; exact Mt.c32_get _ _ hi)
      have HGV := Lib.hid (ho2.lt gv rfl)
      have HON2 := Lib.hid (HON1.out.then hb2)
      have hsz1 := HON1.out.size
      have hsz2 := hb2.size
      have HH2 := Lib.hid (show H8 w2 gh (Mt.hb V L t) from by
        obtain ⟨cur, h1, h2⟩ := HH1.out
        exact ⟨cur, by rw [hb2.block _ (Nat.lt_of_lt_of_le HS.out.2.2 hsz1)]; exact h1, h2⟩)
      have HGW := Lib.hid (HW1.out.lt gw rfl)
      have HWC := Lib.hid (show ∀ n, n < 64 → w2.cell? ⟨gw, n, none⟩ = some (.int .u32 (((Mt.wl blk 64).getD n 0 : Nat) : Int)) from fun n hn => by
        rw [hb2.cell (p := ⟨gw, n, none⟩) HGW.out.2, HW1.out.cellAt n (by omega)]
        exact Mt.c32_get _ _ (by rw [Mt.wl_length]; exact hn))
      clear ho2 hb2 HON1 HH1 HNEWS HONE HW1
      refine loop6 gv cv gk ck gw cw (Mt.hb V L t) Mt.K (Mt.wl blk 64) w2 _ _ (Mt.hb_ok HV.out L t) (by have := HS.out.2.1; omega) (by have := HGW.out.2; omega) (fun n hn => by
        rw [HON2.out.cell (p := ⟨gk, n, none⟩) HS.out.2.1 HN.out.2]; exact HEK.out n hn) HWC.out HV2.out ?_
      rintro z16 z17 z173 z174 z175 z176 z177 z178 z179 z180 z181 z182 z183 z184 z185 z186 gx cx u3 rfl hf h8x hb3
      have HGX := Lib.hid (show gx ≠ gh from by
        have h1 := HS.out.2.2
        have h2 := HGV.out
        rcases hf with rfl | h
        · omega
        · omega)
      have HH3 := Lib.hid (show H8 u3 gh (Mt.hb V L t) from by
        obtain ⟨cur, h1, h2⟩ := HH2.out
        exact ⟨cur, by rw [hb3.block _ (by have := HS.out.2.2; omega)]; exact h1, h2⟩)
      have HON3 := Lib.hid (HON2.out.then hb3)
      have HX3 := Lib.hid h8x
      clear hb3 hf h8x HON2 HH2 HV2 HWC
      conv => zeta
      go_wp2_with fail
      refine loop7 gh ch gx cx (Mt.hb V L t) (Mt.runs Mt.K (Mt.wl blk 64) (Mt.hb V L t) 64) u3 _ HGX.out HH3.out HX3.out ?_
      intro y18 y187 y188 y189 y190 y191 y192 y193 y194 y195 y196 y197 y198 y199 y200 u4 h84 ho4
      have HON4 := Lib.hid (HON3.out.trans ho4)
      have HH4 := Lib.hid (show H8 u4 gh (Mt.hb V L (t + 1)) from by
        have e : Mt.hb V L (t + 1) = Mt.addW (Mt.hb V L t) (Mt.runs Mt.K (Mt.wl blk 64) (Mt.hb V L t) 64) := by rw [← HBK.out, HT.out]; rfl
        rw [e]; exact h84)
      clear h84 ho4 HON3 HH3 HX3
      conv => zeta
      go_wp2_with fail
      go_roundw
      case rel => exact ⟨t + 1, T + 64, by omega, by go_num, by have := HT.out; omega, HON4, HH4⟩
      case measure => simp [intOf]; omega
    · have htq' : decide ((T : Int) < 64 * (q : Int)) = false := decide_eq_false (by omega)
      have HHF : Hid (H8 wr gh (Mt.hb V L q)) := Lib.hid (by
        obtain rfl : t = q := by omega
        exact HH.out)
      clear HH hT
      go_wp2_with fail
      exact HFIN.out _ _ _ _ _ _ _ _ _ _ _ _ _ _ _ _ _ _ _ _ _ _ _ _ _ _ _ _ _ _ _ _ _ _ _ _ _ _ _ _ _ _ _ _ _ _ _ _ _ _ _ _ _ _ _ _ _ _ _ _ _ _ _ _ _ _ _ _ _ _ _ _ _ _ _ _ _ _ _ _ _ _ _ _ _ _ _ _ _ _ _ _ _ _ _ _ _ _ _ _ _ _ _ _ _ _ _ _ _ _ _ _ _ _ _ _ _ _ _ _ _ _ _ _ _ _ _ _ _ _ _ _ _ _ _ _ _ _ HHF.out HON.out

end Go.Proofs.YtpdionmecflibaaDoor
