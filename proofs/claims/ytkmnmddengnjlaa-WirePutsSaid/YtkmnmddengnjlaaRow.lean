/- Slices of bytes that a call makes itself: built of constants, appended to, turned into a string. -/
import Derived.Test.YtkmnmddengnjlaaProg
import Derived.WalkKit
import Derived.WalkMore
import Derived.Laws.AppendOwn
import Derived.Laws.IdiomStrings
import Derived.Below
import Derived.Lib.OthersKept
import Derived.Lib.RuneBytes
namespace Go.Proofs.Ytkmnmddengnjlaa
open Go Go.RowKit

/-- The slice v is the call's own (its row in a block from B on) and holds these bytes. -/
def Own (B : Nat) (v : Value) (l : List UInt8) (w : World) : Prop := w.ownsRow B 5 1 v l.length (Lib.byteCells l)
theorem infoByte : (Try.prog.info? 5).map (fun i => (i.zero, i.size, i.bytes)) = some (some (.int .u8 0), 1, 1) := by kernel_rfl
theorem own_nil (B : Nat) (w : World) : Own B (.slice none 0 0) [] w := World.ownsRow_nil w B _ 1
theorem own_made (B : Nat) (l : List UInt8) (w : World) (hb : B ≤ w.heap.size) (hm : l.length ≤ 1000000) :
    Own B (.slice (some ⟨w.heap.size, 0, none⟩) l.length l.length) l (w.alloc (.cells (Lib.byteCells l).toArray 5)) := by
  refine ⟨by simp [Lib.byteCells_length], .inr ⟨w.heap.size, l.length, (Lib.byteCells l).toArray, rfl, hb, heap_alloc_new w _, Nat.le_refl _, by unfold maxLen; omega, by simp [Lib.byteCells_length], ?_⟩⟩
  rw [Nat.mul_one, List.take_of_length_le (by simp [Lib.byteCells_length])]
theorem Own.alloc {B : Nat} {v : Value} {l : List UInt8} {w : World} (h : Own B v l w) (o : Obj) : Own B v l (w.alloc o) := World.ownsRow.alloc h o
theorem Own.below {B : Nat} {v : Value} {l : List UInt8} {w w' : World} (h : Own B v l w) (hb : Below w.heap.size w w') : Own B v l w' := by
  refine ⟨h.1, ?_⟩
  rcases h.2 with h0 | ⟨g, cap, cur, hv, hB, hg, rest⟩
  · exact .inl h0
  · have hlt : g < w.heap.size := (Array.getElem?_eq_some_iff.1 hg).1
    exact .inr ⟨g, cap, cur, hv, hB, (hb.block g hlt).trans hg, rest⟩
theorem Own.string {B : Nat} {v : Value} {l : List UInt8} {w : World} (h : Own B v l w) : (convert 22 9 v).run Try.prog w = .ok (.string ⟨l.toArray⟩) w := by
  rcases h.2 with ⟨rfl, h0⟩ | ⟨g, cap, cur, rfl, hB, hg, hn, hc, hs, ht⟩
  · obtain rfl : l = [] := List.length_eq_zero_iff.1 h0
    rw [run_convert_bytes_string w _ _ _ none 0 0 Try.underlying22 Try.underlying5 Try.underlying9]
    simp [Conv.bytesToString]
    rfl
  · refine run_convert_bytes_back w _ _ _ ⟨g, 0, none⟩ cap l Try.underlying22 Try.underlying5 Try.underlying9 fun j hj => ?_
    have h1 : cur.toList[j]? = some (.int .u8 (l[j].toNat : Int)) := by
      have := congrArg (fun x : List Value => x[j]?) ht
      simp only [Nat.mul_one, List.getElem?_take, hj, if_true] at this
      rw [this]
      simp [Lib.byteCells, hj]
    rw [show (⟨g, 0, none⟩ : Addr).add j = ⟨g, j, none⟩ from (by simp [Addr.add]; exact fun h => h.symm), Lib.cell_of_heap hg]
    simpa using h1

/-- 'append' of one byte to a slice of the call's own. -/
theorem wpList_own1 {ops : Array Oper} {rest : List Oper} {o : Oper} {a : Act} {Q : Exit → Act → World → Prop} (hgd : o.guard = none) (s x : Operand)
    (ho : o.op = .call { callee := .builtin .append, args := #[s, x], argTypes := #[22, 22] })
    {B : Nat} {v : Value} {l : List UInt8} (c : UInt8) {w : World} (hown : Own B v l w) (hs : a.eval s = v) (hx : a.eval x = .slice (some ⟨w.heap.size, 0, none⟩) 1 1)
    (hlen : l.length + 1 ≤ 140737488355328) (hB : B ≤ w.heap.size)
    (h : ∀ v' w', Own B v' (l ++ [c]) w' → Below B w w' → wpList Try.prog ops Q rest (a.put o.dst v') w') :
    wpList Try.prog ops Q (o :: rest) a (w.alloc (.cells #[.int .u8 (c.toNat : Int)] 5)) := by
  obtain ⟨i0, hi, hz0', hz1', hz2'⟩ := info_parts infoByte
  refine wpList_append_own _ hgd s x 22 ho B 5 i0 (.int .u8 0) 1 1 Try.underlying22 hi hz0' hz1' hz2' rfl (by decide) v l.length _ hs (World.ownsRow.alloc hown _) ⟨w.heap.size, 0, none⟩ 1 1 [.int .u8 (c.toNat : Int)] hx rfl ?_ ?_ ?_ ?_ ?_ ?_
  · intro j u hj
    match j, hj with
    | 0, hj => simp at hj; subst hj; simp [Addr.add]
  · intro u hu; simp at hu; subst hu; rfl
  · unfold maxLen; omega
  · omega
  · simp; omega
  · intro v' w2 hown' hgrow _
    refine h v' w2 ?_ (((Below.refl B w).alloc hB _).grown hgrow (by simp; omega) (fun k hk => (World.ownsRow.lt hown k hk).1))
    unfold Own
    rw [Lib.byteCells_append, List.length_append]
    exact hown'
end Go.Proofs.Ytkmnmddengnjlaa
