/- Rows of bytes that came in or that a call makes itself: appending to them. -/
import Derived.Test.YtkmnmddengnjlaaRow
import Derived.Laws.AppendOwnNone
namespace Go.Proofs.Ytkmnmddengnjlaa
open Go Go.RowKit

/-- A slice of bytes that came in: what its places hold. -/
def BytesAre (a0 : Option Addr) (l : List UInt8) (w : World) : Prop := ∀ i (h : i < l.length), ∃ (b off : Nat), a0 = some ⟨b, off, none⟩ ∧ b < w.heap.size ∧ w.cell? ⟨b, off + i, none⟩ = some (.int .u8 (l[i].toNat : Int))
theorem BytesAre.take {a : Option Addr} {l : List UInt8} {w : World} (h : BytesAre a l w) (n : Nat) : BytesAre a (l.take n) w := by
  intro i hi
  rw [List.length_take] at hi
  obtain ⟨b, off, e, hb, hc⟩ := h i (by omega)
  exact ⟨b, off, e, hb, by rw [List.getElem_take]; exact hc⟩
theorem BytesAre.below {a : Option Addr} {l : List UInt8} {w w' : World} {B : Nat} (h : BytesAre a l w) (hB : w.heap.size ≤ B) (hb : Below B w w') : BytesAre a l w' := by
  intro i hi
  obtain ⟨b, off, rfl, hlt, hc⟩ := h i hi
  exact ⟨b, off, rfl, by have := hb.size; omega, (hb.cell (p := ⟨b, off + i, none⟩) (by show b < B; omega)).trans hc⟩
theorem add_off (b off j : Nat) : (⟨b, off, none⟩ : Addr).add j = ⟨b, off + j, none⟩ := by
  unfold Addr.add
  split
  · rename_i h; subst h; rfl
  · rfl
set_option linter.unusedVariables false in
theorem wpList_ownL {ops : Array Oper} {rest : List Oper} {o : Oper} {a : Act} {Q : Exit → Act → World → Prop} (hgd : o.guard = none) (s x : Operand)
    (ho : o.op = .call { callee := .builtin .append, args := #[s, x], argTypes := #[22, 22] })
    {B : Nat} {v : Value} {l : List UInt8} (m : List UInt8) (a1 : Option Addr) (c1 : Nat) {w : World} (hown : Own B v l w) (hs : a.eval s = v) (hx : a.eval x = .slice a1 m.length c1)
    (hn : a1 = none → c1 = 0) (hm : BytesAre a1 m w) (hlen : l.length + m.length ≤ 140737488355328) (hB : B ≤ w.heap.size)
    (h : ∀ v' w', Own B v' (l ++ m) w' → Below B w w' → wpList Try.prog ops Q rest (a.put o.dst v') w') :
    wpList Try.prog ops Q (o :: rest) a w := by
  obtain ⟨i0, hi, hz0', hz1', hz2'⟩ := info_parts infoByte
  cases a1 with
  | none =>
    have hm0 : m = [] := by
      cases m with
      | nil => rfl
      | cons c t => obtain ⟨b, off, he, _⟩ := hm 0 (by simp); cases he
    subst hm0
    rw [hn rfl] at hx
    refine wpList_append_own_none hgd s x 22 ho B 5 i0 1 Try.underlying22 hi v l.length _ hs hown hx ?_
    exact h v w (by rw [List.append_nil]; exact hown) (Below.refl _ _)
  | some ad =>
    refine wpList_append_own _ hgd s x 22 ho B 5 i0 (.int .u8 0) 1 1 Try.underlying22 hi hz0' hz1' hz2' rfl (by decide) v l.length _ hs hown ad m.length c1 (Lib.byteCells m) hx (by simp [Lib.byteCells_length]) ?_ ?_ ?_ ?_ hB ?_
    · intro j u hj
      have hjl : j < m.length := by
        have := (List.getElem?_eq_some_iff.1 hj).1
        simpa [Lib.byteCells_length] using this
      obtain ⟨b, off, he, hlt, hc⟩ := hm j hjl
      cases he
      rw [add_off, hc]
      simpa [Lib.byteCells, hjl] using hj
    · intro u hu
      simp only [Lib.byteCells, List.mem_map] at hu
      obtain ⟨c, _, rfl⟩ := hu
      rfl
    · unfold maxLen; omega
    · omega
    · intro v' w' hown' hgrow _
      refine h v' w' ?_ ((Below.refl B w).grown hgrow hB (fun k hk => (hown.lt k hk).1))
      simpa [Own, Lib.byteCells] using hown'
/-- The number of bytes of a field as eight bytes, the most significant one first. -/
def lenB (n : Nat) : List UInt8 := (List.range 8).map fun j => UInt8.ofNat (n / 2 ^ (56 - 8 * j))
theorem lenB_length (n : Nat) : (lenB n).length = 8 := by simp [lenB]
theorem lenB_take (n j : Nat) (h : j < 8) : (lenB n).take (j + 1) = (lenB n).take j ++ [UInt8.ofNat (n / 2 ^ (56 - 8 * j))] := by
  rw [List.take_succ_eq_append_getElem (by rw [lenB_length]; exact h)]
  simp [lenB]
/-- A list of fields that came in: what its places hold. -/
def FieldsAre (a0 : Option Addr) (l : List (List UInt8)) (w : World) : Prop :=
  ∀ i (h : i < l.length), ∃ (b off : Nat) (a1 : Option Addr) (c1 : Nat), a0 = some ⟨b, off, none⟩ ∧ b < w.heap.size ∧ w.cell? ⟨b, off + i, none⟩ = some (.slice a1 (l[i].length : Nat) c1) ∧ (a1 = none → c1 = 0) ∧ l[i].length ≤ c1 ∧ BytesAre a1 l[i] w
theorem FieldsAre.below {a : Option Addr} {l : List (List UInt8)} {w w' : World} {B : Nat} (h : FieldsAre a l w) (hB : w.heap.size ≤ B) (hb : Below B w w') : FieldsAre a l w' := by
  intro i hi
  obtain ⟨b, off, a1, c1, rfl, hlt, hc, hn, hl, hm⟩ := h i hi
  exact ⟨b, off, a1, c1, rfl, by have := hb.size; omega, (hb.cell (p := ⟨b, off + i, none⟩) (by show b < B; omega)).trans hc, hn, hl, hm.below hB hb⟩
/-- What a call that makes a row of bytes returns. -/
def MadeBytes (l : List UInt8) (w : World) (e : Ending) (w' : World) : Prop := ∃ (a1 : Option Addr) (c1 : Nat), e = .returned (.slice a1 (l.length : Nat) c1) ∧ (a1 = none → c1 = 0) ∧ l.length ≤ c1 ∧ BytesAre a1 l w' ∧ Below w.heap.size w w' ∧ Own w.heap.size (.slice a1 l.length c1) l w'
theorem Own.shape {B : Nat} {v : Value} {l : List UInt8} {w : World} (h : Own B v l w) : ∃ (a1 : Option Addr) (c1 : Nat), v = .slice a1 l.length c1 ∧ (a1 = none → c1 = 0) ∧ l.length ≤ c1 ∧ BytesAre a1 l w := by
  rcases h.2 with ⟨rfl, h0⟩ | ⟨g, cap, cur, rfl, hB, hg, hn, hc, hs, ht⟩
  · exact ⟨none, 0, by rw [h0], fun _ => rfl, by omega, fun i hi => by omega⟩
  · refine ⟨some ⟨g, 0, none⟩, cap, rfl, (by intro h; cases h), hn, fun i hi => ⟨g, 0, rfl, (Array.getElem?_eq_some_iff.1 hg).1, ?_⟩⟩
    have h1 : cur.toList[i]? = some (.int .u8 (l[i].toNat : Int)) := by
      have := congrArg (fun x : List Value => x[i]?) ht
      simp only [Nat.mul_one, List.getElem?_take, hi, if_true] at this
      rw [this]
      simp [Lib.byteCells, hi]
    rw [Lib.cell_of_heap hg]
    simpa using h1
end Go.Proofs.Ytkmnmddengnjlaa
