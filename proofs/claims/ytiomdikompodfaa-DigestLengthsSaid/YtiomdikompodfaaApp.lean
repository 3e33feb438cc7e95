/- A field is appended to a row of bytes that the call owns; the frame of a list of fields, and how it grows. -/
import Derived.Test.YtiomdikompodfaaRow
import Derived.Laws.AppendOwnNone
import Derived.Test.YtiomdikompodfaaSipC
namespace Go.Proofs.Ytiomdikompodfaa
open Go Go.RowKit

theorem BytesAre.below {a : Option Addr} {l : List UInt8} {w w' : World} {B : Nat} (h : BytesAre a l w) (hB : w.heap.size ≤ B) (hb : Below B w w') : BytesAre a l w' := by
  intro i hi
  obtain ⟨b, off, rfl, hlt, hc⟩ := h i hi
  exact ⟨b, off, rfl, by have := hb.size; omega, (hb.cell (p := ⟨b, off + i, none⟩) (by show b < B; omega)).trans hc⟩
theorem add_off (b off j : Nat) : (⟨b, off, none⟩ : Addr).add j = ⟨b, off + j, none⟩ := by
  unfold Addr.add
  split
  · rename_i h; subst h; rfl
  · rfl
set_option linter.unusedVariables false in
theorem wpList_ownL {ops : Array Oper} {rest : List Oper} {o : Oper} {a : Act} {Q : Exit → Act → World → Prop} (hgd : o.guard = none) (s x : Operand)
    (ho : o.op = .call { callee := .builtin .append, args := #[s, x], argTypes := #[23, 23] })
    {B : Nat} {v : Value} {l : List UInt8} (m : List UInt8) (a1 : Option Addr) (c1 : Nat) {w : World} (hown : Own B v l w) (hs : a.eval s = v) (hx : a.eval x = .slice a1 m.length c1)
    (hn : a1 = none → c1 = 0) (hm : BytesAre a1 m w) (hlen : l.length + m.length ≤ 140737488355328) (hB : B ≤ w.heap.size)
    (h : ∀ v' w', Own B v' (l ++ m) w' → Below B w w' → wpList Try.prog ops Q rest (a.put o.dst v') w') :
    wpList Try.prog ops Q (o :: rest) a w := by
  obtain ⟨i0, hi, hz0', hz1', hz2'⟩ := info_parts infoByte
  cases a1 with
  | none =>
    have hm0 : m = [] := by
      cases m with
      | nil => rfl
      | cons c t => obtain ⟨b, off, he, _⟩ := hm 0 (by simp); cases he
    subst hm0
    rw [hn rfl] at hx
    refine wpList_append_own_none hgd s x 23 ho B 5 i0 1 Try.underlying23 hi v l.length _ hs hown hx ?_
    exact h v w (by rw [List.append_nil]; exact hown) (Below.refl _ _)
  | some ad =>
    refine wpList_append_own _ hgd s x 23 ho B 5 i0 (.int .u8 0) 1 1 Try.underlying23 hi hz0' hz1' hz2' rfl (by decide) v l.length _ hs hown ad m.length c1 (Lib.byteCells m) hx (by simp [Lib.byteCells_length]) ?_ ?_ ?_ ?_ hB ?_
    · intro j u hj
      have hjl : j < m.length := by
        have := (List.getElem?_eq_some_iff.1 hj).1
        simpa [Lib.byteCells_length] using this
      obtain ⟨b, off, he, hlt, hc⟩ := hm j hjl
      cases he
      rw [add_off, hc]
      simpa [Lib.byteCells, hjl] using hj
    · intro u hu
      simp only [Lib.byteCells, List.mem_map] at hu
      obtain ⟨c, _, rfl⟩ := hu
      rfl
    · unfold maxLen; omega
    · omega
    · intro v' w' hown' hgrow _
      refine h v' w' ?_ ((Below.refl B w).grown hgrow hB (fun k hk => (hown.lt k hk).1))
      simpa [Own, Lib.byteCells] using hown'
/-- The number of bytes of a field as eight bytes, the most significant one first. -/
def lenB (n : Nat) : List UInt8 := (List.range 8).map fun j => UInt8.ofNat (n / 2 ^ (56 - 8 * j))
def frameL : List (List UInt8) → List UInt8
  | [] => []
  | f :: fs => lenB f.length ++ f ++ frameL fs
theorem frameL_append (a b : List (List UInt8)) : frameL (a ++ b) = frameL a ++ frameL b := by
  induction a with
  | nil => rfl
  | cons f fs ih => simp [frameL, ih]
theorem frameL_take (l : List (List UInt8)) (i : Nat) (h : i < l.length) : frameL (l.take (i + 1)) = frameL (l.take i) ++ lenB l[i].length ++ l[i] := by
  rw [List.take_succ_eq_append_getElem h, frameL_append]
  simp [frameL]
theorem lenB_length (n : Nat) : (lenB n).length = 8 := by simp [lenB]
theorem lenB_take (n j : Nat) (h : j < 8) : (lenB n).take (j + 1) = (lenB n).take j ++ [UInt8.ofNat (n / 2 ^ (56 - 8 * j))] := by
  rw [List.take_succ_eq_append_getElem (by rw [lenB_length]; exact h)]
  simp [lenB]
/-- A list of fields that came in: what its places hold. -/
def FieldsAre (a0 : Option Addr) (l : List (List UInt8)) (w : World) : Prop :=
  ∀ i (h : i < l.length), ∃ (b off : Nat) (a1 : Option Addr) (c1 : Nat), a0 = some ⟨b, off, none⟩ ∧ b < w.heap.size ∧ w.cell? ⟨b, off + i, none⟩ = some (.slice a1 (l[i].length : Nat) c1) ∧ (a1 = none → c1 = 0) ∧ l[i].length ≤ c1 ∧ BytesAre a1 l[i] w
theorem FieldsAre.below {a : Option Addr} {l : List (List UInt8)} {w w' : World} {B : Nat} (h : FieldsAre a l w) (hB : w.heap.size ≤ B) (hb : Below B w w') : FieldsAre a l w' := by
  intro i hi
  obtain ⟨b, off, a1, c1, rfl, hlt, hc, hn, hl, hm⟩ := h i hi
  exact ⟨b, off, a1, c1, rfl, by have := hb.size; omega, (hb.cell (p := ⟨b, off + i, none⟩) (by show b < B; omega)).trans hc, hn, hl, hm.below hB hb⟩
theorem frameL_le (l : List (List UInt8)) (h : ∀ f ∈ l, f.length ≤ 100000) : (frameL l).length ≤ l.length * 100008 := by
  induction l with
  | nil => simp [frameL]
  | cons f fs ih =>
    have h1 := h f (by simp)
    have h2 := ih fun g hg => h g (by simp [hg])
    simp only [frameL, List.length_append, lenB_length, List.length_cons]
    omega
end Go.Proofs.Ytiomdikompodfaa
