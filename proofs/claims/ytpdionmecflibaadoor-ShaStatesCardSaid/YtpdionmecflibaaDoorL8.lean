/-
  Loop 8 of the document's Sum256: the digest's bytes.
-/
import Derived.Test.YtpdionmecflibaaDoorRCut
import Derived.Test.YtpdionmecflibaaDoorL6
import Derived.Test.YtpdionmecflibaaDoorEnd
import Derived.Laws.AppendOwn
namespace Go.Proofs.YtpdionmecflibaaDoor
open Go.RowKit

set_option maxHeartbeats 4000000 in
set_option maxRecDepth 1000000 in
theorem loop8 {x0 x1 x2 x3 x4 x5 x6 x7 x8 x9 x10 x11 x12 x13 x14 x15 x16 x17 x18 x20 x21 x22 x23 x24 x25 x26 x27 x28 x29 x30 x31 x32 x33 x34 x35 x36 x37 x38 x39 x40 x41 x42 x43 x44 x45 x46 x47 x48 x49 x50 x51 x52 x53 x54 x55 x56 x57 x58 x59 x60 x61 x62 x63 x64 x65 x66 x67 x68 x69 x70 x71 x72 x73 x74 x75 x76 x77 x78 x79 x80 x81 x82 x83 x84 x85 x86 x87 x88 x89 x90 x91 x92 x93 x94 x95 x96 x97 x98 x99 x100 x101 x102 x103 x104 x105 x106 x107 x108 x109 x110 x111 x112 x113 x114 x115 x116 x117 x118 x119 x120 x121 x122 x123 x124 x125 x126 x127 x128 x129 x130 x131 x132 x133 x134 x135 x136 x137 x138 x139 x140 x141 x142 x143 x144 x145 x146 x147 x148 x149 x150 x151 x152 x153 x154 x155 x156 x157 x158 x159 x160 x161 x162 x163 x164 x165 x166 x167 x168 x169 x170 x171 x172 x173 x174 x175 x176 x177 x178 x179 x180 x181 x182 x183 x184 x185 x186 x187 x188 x189 x190 x191 x192 x193 x194 x195 x196 x197 x198 x199 x200 x204 x205 x206 x207 x208 x209 x210 x211 x212 x213 x214 x215 x216 x217 x218 x219 x220 x221 x222 x223 x224 x225 x226 x227 x228 x229 x230 x231 x232 : Value} (gh ch : Nat) (V : Mt.W8) (w9 : World) (K : Act → World → Prop) (Q : Exit → Act → World → Prop)
    (hV : V.Ok) (h8 : Has8 w9 gh V)
    (hfin : ∀ (y19 y21 y203 y204 y205 y206 y207 y208 y209 y210 y211 y212 y213 y214 y215 y216 y217 y218 y219 y220 y221 y222 y223 y224 y225 y226 y227 y228 y229 y230 : Value) (u : World), u.ownsRow w9.heap.size 5 1 y19 32 (Mt.cs (Mt.out V)) → Below w9.heap.size w9 u → K ⟨#[x0, x1, x2, x3, x4, x5, x6, x7, x8, x9, x10, x11, x12, x13, x14, x15, x16, x17, x18, y19, x20, y21, x22, x23, x24, x25, x26, x27, x28, x29, x30, x31, x32, x33, x34, x35, x36, x37, x38, x39, x40, x41, x42, x43, x44, x45, x46, x47, x48, x49, x50, x51, x52, x53, x54, x55, x56, x57, x58, x59, x60, x61, x62, x63, x64, x65, x66, x67, x68, x69, x70, x71, x72, x73, x74, x75, x76, x77, x78, x79, x80, x81, x82, x83, x84, x85, x86, x87, x88, x89, x90, x91, x92, x93, x94, x95, x96, x97, x98, x99, x100, x101, x102, x103, x104, x105, x106, x107, x108, x109, x110, x111, x112, x113, x114, x115, x116, x117, x118, x119, x120, x121, x122, x123, x124, x125, x126, x127, x128, x129, x130, x131, x132, x133, x134, x135, x136, x137, x138, x139, x140, x141, x142, x143, x144, x145, x146, x147, x148, x149, x150, x151, x152, x153, x154, x155, x156, x157, x158, x159, x160, x161, x162, x163, x164, x165, x166, x167, x168, x169, x170, x171, x172, x173, x174, x175, x176, x177, x178, x179, x180, x181, x182, x183, x184, x185, x186, x187, x188, x189, x190, x191, x192, x193, x194, x195, x196, x197, x198, x199, x200, Value.slice (some ⟨gh, 0, none⟩) 8 ch, Value.int .i64 8, y203, y204, y205, y206, y207, y208, y209, y210, y211, y212, y213, y214, y215, y216, y217, y218, y219, y220, y221, y222, y223, y224, y225, y226, y227, y228, y229, y230, x231, x232], []⟩ u) :
    Code.wp Tryd.prog (Code.loop (rbody 7)) (Exit.inBlock 14 (Exit.then K Q)) ⟨#[x0, x1, x2, x3, x4, x5, x6, x7, x8, x9, x10, x11, x12, x13, x14, x15, x16, x17, x18, Value.slice none 0 0, x20, x21, x22, x23, x24, x25, x26, x27, x28, x29, x30, x31, x32, x33, x34, x35, x36, x37, x38, x39, x40, x41, x42, x43, x44, x45, x46, x47, x48, x49, x50, x51, x52, x53, x54, x55, x56, x57, x58, x59, x60, x61, x62, x63, x64, x65, x66, x67, x68, x69, x70, x71, x72, x73, x74, x75, x76, x77, x78, x79, x80, x81, x82, x83, x84, x85, x86, x87, x88, x89, x90, x91, x92, x93, x94, x95, x96, x97, x98, x99, x100, x101, x102, x103, x104, x105, x106, x107, x108, x109, x110, x111, x112, x113, x114, x115, x116, x117, x118, x119, x120, x121, x122, x123, x124, x125, x126, x127, x128, x129, x130, x131, x132, x133, x134, x135, x136, x137, x138, x139, x140, x141, x142, x143, x144, x145, x146, x147, x148, x149, x150, x151, x152, x153, x154, x155, x156, x157, x158, x159, x160, x161, x162, x163, x164, x165, x166, x167, x168, x169, x170, x171, x172, x173, x174, x175, x176, x177, x178, x179, x180, x181, x182, x183, x184, x185, x186, x187, x188, x189, x190, x191, x192, x193, x194, x195, x196, x197, x198, x199, x200, Value.slice (some ⟨gh, 0, none⟩) 8 ch, Value.int .i64 8, Value.int .i64 0, x204, x205, x206, x207, x208, x209, x210, x211, x212, x213, x214, x215, x216, x217, x218, x219, x220, x221, x222, x223, x224, x225, x226, x227, x228, x229, x230, x231, x232], []⟩ w9 := by
  obtain ⟨i0, hi, hz0, hz1, hz2⟩ := info_parts Tryd.info5
  have HFIN := Lib.hid hfin
  have H8' := Lib.hid h8
  have HV := Lib.hid hV
  clear hfin h8 hV
  conv => zeta
  conv => arg 2; arg 1; whnf
  go_loopw [19, 203] (fun vv i wx => ∃ n : Nat, n ≤ 8 ∧ i = .int .i64 n ∧ Hid (wx.ownsRow w9.heap.size 5 1 vv (4 * n) (Mt.cs ((V.list.take n).flatMap Mt.bytes4))) ∧ Hid (Below w9.heap.size w9 wx)) (fun _ i _ => 8 - (intOf i).toNat)
  case atStart => exact ⟨0, by omega, rfl, Lib.hid (World.ownsRow_nil _ _ _ _), Lib.hid (Below.refl _ _)⟩
  case round =>
    obtain ⟨n, hn, rfl, HO, HB⟩ := hrel
    by_cases hn8 : n < 8
    · have hn8' : (n : Int) < 8 := by omega
      have hcell : wr.cell? ⟨gh, n, none⟩ = some (.int .u32 ((V.list.getD n 0 : Nat) : Int)) := by
        rw [HB.out.cell (p := ⟨gh, n, none⟩) H8'.out.lt]; exact H8'.out n hn8
      have hx32 := Mt.getD_lt (Mt.W8.list_lt HV.out) n
      have HTK := Lib.hid (show V.list.take (n + 1) = V.list.take n ++ [V.list.getD n 0] from by
        have hl : n < V.list.length := hn8
        rw [List.take_succ_eq_append_getElem hl]; simp [List.getD, List.getElem?_eq_getElem hl])
      generalize V.list.getD n 0 = x at hcell hx32 HTK
      have hsz := HB.out.size
      have hown := HO.out
      go_upto_region 44 with (at_builtin; refine wpList_append_own _ rfl _ _ 46 rfl w9.heap.size 5 i0 (.int .u8 0) 1 1 Tryd.underlying46 hi hz0 hz1 hz2 rfl (by decide) _ _ _ rfl (hown.alloc _) ⟨wr.heap.size, 0, none⟩ 1 1 [_] rfl rfl (cell_one_new _ _ _) (by simp [Value.oneCell']) (by unfold maxLen; omega) (by omega) (by simp; omega) ?_; intro v2 w2 hown2 hgr2 _)
      have HB2 := Lib.hid ((HB.out.alloc hsz _).grown hgr2 (by simp; omega) (fun j hj => (hown.lt j hj).1))
      have hown3 := hown2
      have hsz3 := HB2.out.size
      clear hgr2 hown HO HB hcell hown2
      go_upto_region 45 with (at_builtin; refine wpList_append_own _ rfl _ _ 46 rfl w9.heap.size 5 i0 (.int .u8 0) 1 1 Tryd.underlying46 hi hz0 hz1 hz2 rfl (by decide) _ _ _ rfl (hown3.alloc _) ⟨w2.heap.size, 0, none⟩ 1 1 [_] rfl rfl (cell_one_new _ _ _) (by simp [Value.oneCell']) (by unfold maxLen; omega) (by omega) (by simp; omega) ?_; intro v3 w3 hown4 hgr3 _)
      have HB3 := Lib.hid ((HB2.out.alloc hsz3 _).grown hgr3 (by simp; omega) (fun j hj => (hown3.lt j hj).1))
      have hsz4 := HB3.out.size
      clear hgr3 hown3 HB2
      go_upto_region 46 with (at_builtin; refine wpList_append_own _ rfl _ _ 46 rfl w9.heap.size 5 i0 (.int .u8 0) 1 1 Tryd.underlying46 hi hz0 hz1 hz2 rfl (by decide) _ _ _ rfl (hown4.alloc _) ⟨w3.heap.size, 0, none⟩ 1 1 [_] rfl rfl (cell_one_new _ _ _) (by simp [Value.oneCell']) (by unfold maxLen; omega) (by omega) (by simp; omega) ?_; intro v4 w4 hown5 hgr4 _)
      have HB4 := Lib.hid ((HB3.out.alloc hsz4 _).grown hgr4 (by simp; omega) (fun j hj => (hown4.lt j hj).1))
      have hsz5 := HB4.out.size
      clear hgr4 hown4 HB3
      go_upto_region 47 with (at_builtin; refine wpList_append_own _ rfl _ _ 46 rfl w9.heap.size 5 i0 (.int .u8 0) 1 1 Tryd.underlying46 hi hz0 hz1 hz2 rfl (by decide) _ _ _ rfl (hown5.alloc _) ⟨w4.heap.size, 0, none⟩ 1 1 [_] rfl rfl (cell_one_new _ _ _) (by simp [Value.oneCell']) (by unfold maxLen; omega) (by omega) (by simp; omega) ?_; intro v5 w5 hown6 hgr5 _)
      have HB5 := Lib.hid ((HB4.out.alloc hsz5 _).grown hgr5 (by simp; omega) (fun j hj => (hown5.lt j hj).1))
      have HO6 := Lib.hid hown6
      clear hgr5 hown5 HB4 hown6
      go_wp2_with fail
      go_roundw
      case rel =>
        refine ⟨n + 1, by omega, by go_num, Lib.hid ?_, HB5⟩
        have e : Mt.cs ((V.list.take (n + 1)).flatMap Mt.bytes4) = Mt.cs ((V.list.take n).flatMap Mt.bytes4) ++ [Value.int .u8 ((x : Int) / 16777216)] ++ [Value.int .u8 ((x : Int) / 65536 % 256)] ++ [Value.int .u8 ((x : Int) / 256 % 256)] ++ [Value.int .u8 ((x : Int) % 256)] := by
          have e0 : (((UInt8.ofNat (x / 256 ^ 3)).toNat : Nat) : Int) = (x : Int) / 16777216 := by rw [UInt8.toNat_ofNat']; omega
          have e1 : (((UInt8.ofNat (x / 256 ^ 2)).toNat : Nat) : Int) = (x : Int) / 65536 % 256 := by rw [UInt8.toNat_ofNat']; omega
          have e2 : (((UInt8.ofNat (x / 256 ^ 1)).toNat : Nat) : Int) = (x : Int) / 256 % 256 := by rw [UInt8.toNat_ofNat']; omega
          have e3 : (((UInt8.ofNat (x / 256 ^ 0)).toNat : Nat) : Int) = (x : Int) % 256 := by rw [UInt8.toNat_ofNat']; omega
          rw [HTK.out, List.flatMap_append, Mt.cs_append, ← e0, ← e1, ← e2, ← e3, List.append_assoc, List.append_assoc, List.append_assoc]
          rfl
        rw [e]
        exact HO6.out
      case measure => simp [intOf]; omega
    · have hn8' : decide ((n : Int) < 8) = false := decide_eq_false (by omega)
      have HOF : Hid (wr.ownsRow w9.heap.size 5 1 u19 32 (Mt.cs (Mt.out V))) := Lib.hid (by
        obtain rfl : n = 8 := by omega
        exact HO.out)
      clear HO
      go_wp2_with fail
      exact HFIN.out _ _ _ _ _ _ _ _ _ _ _ _ _ _ _ _ _ _ _ _ _ _ _ _ _ _ _ _ _ _ _ HOF.out HB.out

end Go.Proofs.YtpdionmecflibaaDoor
