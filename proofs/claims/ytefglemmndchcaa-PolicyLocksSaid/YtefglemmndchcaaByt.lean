/-
  Bytes in a slice, wherever in its block it begins; what append does to them.
-/
import Derived.Test.YtefglemmndchcaaOnly
import Derived.Deep.AppendSrc
import Derived.Deep.Upon
namespace Go.Proofs.Ytefglemmndchcaa
open Go.RowKit

/-- Bytes in a slice. -/
def IsByt (w : World) (g : Nat) (v : Value) (l : List UInt8) : Prop :=
  (l = [] ∧ v = .slice none 0 0) ∨ ∃ off cap cur, v = .slice (some ⟨g, off, none⟩) l.length cap ∧ w.heap[g]? = some (.cells cur 5 (0, 0)) ∧ l.length ≤ cap ∧ off + cap ≤ cur.size ∧ ∀ j (hj : j < l.length), cur[off + j]? = some (.int .u8 (l[j].toNat : Int))

theorem IsByt.kept {w u : World} {g : Nat} {v : Value} {l : List UInt8} (h : IsByt w g v l) (hg : u.heap[g]? = w.heap[g]?) : IsByt u g v l := by
  rcases h with h | ⟨off, cap, cur, h1, h2, h3⟩
  · exact .inl h
  · exact .inr ⟨off, cap, cur, h1, hg.trans h2, h3⟩

section
variable {P : Program}
theorem run_append_room_row (w : World) (t tx ty e : TypeId) (i : TypeInfo) (ht : P.underlying t = some (.slice e)) (hi : P.info? e = some i) (hsz : i.size = 1) (g off sLen sCap : Nat) (x : Value) (n : Nat) (news : List Value) (hs : Src P i.size tx x n news w)
    (hroom : sLen + n ≤ sCap) (cur : Array Value) (t' : TypeId) (hg : w.heap[g]? = some (.cells cur t' (0, 0))) (hfit : off + sCap ≤ cur.size) :
    (Builtin.append_ #[t, tx] ty #[.slice (some ⟨g, off, none⟩) sLen sCap, x]).run P w = .ok (.slice (some ⟨g, off, none⟩) (sLen + n) sCap)
      (w.setRow g (cur.toList.take (off + sLen) ++ news ++ cur.toList.drop (off + sLen + n)).toArray) := by
  have hnl : news.length = n := by have := hs.newsLen; rw [hsz] at this; omega
  have hst := run_storeCells_at P g (off + sLen) t' news 0 cur w hg (by simp [hnl]; omega) hs.one
  rw [hnl] at hst
  simp only [Nat.add_zero] at hst
  have hcs := hs.cells
  rw [hsz] at hcs
  rcases hs.kind with ⟨e', hk⟩ | hk <;> simp [Builtin.append_, run_underlying ht, run_underlying hk, sizeOf, typeInfo, hi, hs.len, hroom, hcs, Addr.add_lit, hsz, hst]
end

theorem Mt.cs_get (L : List UInt8) (k : Nat) (h : k < L.length) : (Mt.cs L)[k]? = some (.int .u8 (L[k].toNat : Int)) := by
  simp [Mt.cs, List.getElem?_eq_getElem h]
theorem Mt.cs_eq (s : ByteArray) : byteCells s = Mt.cs s.data.toList := rfl

theorem wpList_append_run {P : Program} {ops : Array Oper} {rest : List Oper} {o : Oper} {a : Act} {w : World} {Q : Exit → Act → World → Prop} (hgd : o.guard = none) (d s : Operand) (t t' : TypeId)
    (ho : o.op = .call { callee := .builtin .append, args := #[d, s], argTypes := #[t, t'] }) (v u : Value) (hd : a.eval d = v) (hs : a.eval s = u) {v' : Value} {w' : World}
    (hr : ∀ ty, (Builtin.append_ #[t, t'] ty #[v, u]).run P w = .ok v' w') (h : wpList P ops Q rest (a.put o.dst v') w') : wpList P ops Q (o :: rest) a w :=
  wpList_plain hgd fun _ hK => by
    unfold Oper.wp execOp
    simp only [ho, resolve, invoke, builtin, Sem.run_bind, Sem.run_pure, Result.andThen_ok, List.map_toArray, List.map_cons, List.map_nil, hd, hs, hr]
    exact hK _ _ h
end Go.Proofs.Ytefglemmndchcaa
