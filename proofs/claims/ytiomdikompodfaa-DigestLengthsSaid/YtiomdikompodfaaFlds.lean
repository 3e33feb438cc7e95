/- Rows of fields that a call owns: appended to; bytes turned into a string. -/
import Derived.Test.YtiomdikompodfaaAwake2
namespace Go.Proofs.Ytiomdikompodfaa
open Go Go.RowKit

theorem conv_bytes {a1 : Option Addr} {l : List UInt8} {w : World} {c : Nat} (h : BytesAre a1 l w) (hn : a1 = none → c = 0) : (convert 23 9 (.slice a1 l.length c)).run Try.prog w = .ok (.string ⟨l.toArray⟩) w := by
  cases a1 with
  | none =>
    obtain rfl : l = [] := by
      cases l with
      | nil => rfl
      | cons x t => obtain ⟨b, off, he, _⟩ := h 0 (by simp); cases he
    rw [run_convert_bytes_string w _ _ _ none _ c Try.underlying23 Try.underlying5 Try.underlying9]
    simp [Conv.bytesToString]
    rfl
  | some ad =>
    refine run_convert_bytes_back w _ _ _ ad c l Try.underlying23 Try.underlying5 Try.underlying9 fun j hj => ?_
    obtain ⟨b, off, he, _, hc⟩ := h j hj
    cases he
    rw [add_off, hc]
theorem link {w w1 w2 : World} (h : Below w.heap.size w w1) (h2 : Below w1.heap.size w1 w2) : Below w.heap.size w w2 := h.trans (h2.mono h.size)
/-- What the cells of a row of fields hold. -/
def Flds (fs : List (List UInt8)) (xs : List Value) (w : World) : Prop :=
  xs.length = fs.length ∧ ∀ i (h : i < fs.length), ∃ (a1 : Option Addr) (c1 : Nat), xs[i]? = some (.slice a1 (fs[i].length : Nat) c1) ∧ (a1 = none → c1 = 0) ∧ fs[i].length ≤ c1 ∧ BytesAre a1 fs[i] w
theorem Flds.append {fs gs : List (List UInt8)} {xs ys : List Value} {w : World} (h : Flds fs xs w) (h' : Flds gs ys w) : Flds (fs ++ gs) (xs ++ ys) w := by
  refine ⟨by simp [h.1, h'.1], fun i hi => ?_⟩
  by_cases hl : i < fs.length
  · obtain ⟨a1, c1, hx, r⟩ := h.2 i hl
    refine ⟨a1, c1, ?_⟩
    rw [List.getElem?_append_left (by rw [h.1]; exact hl), List.getElem_append_left hl]
    exact ⟨hx, r⟩
  · have hl2 : i - fs.length < gs.length := by simp at hi; omega
    obtain ⟨a1, c1, hx, r⟩ := h'.2 (i - fs.length) hl2
    refine ⟨a1, c1, ?_⟩
    rw [List.getElem?_append_right (by rw [h.1]; omega), List.getElem_append_right (by omega), h.1]
    exact ⟨hx, r⟩
theorem FieldsAre.flds {a0 : Option Addr} {fs : List (List UInt8)} {w : World} (h : FieldsAre a0 fs w) : ∃ xs, Flds fs xs w ∧ ∀ j u, xs[j]? = some u → ∃ b off, a0 = some ⟨b, off, none⟩ ∧ b < w.heap.size ∧ w.cell? ⟨b, off + j, none⟩ = some u := by
  have hall : ∀ i : Fin fs.length, ∃ u, (∃ (a1 : Option Addr) (c1 : Nat), u = .slice a1 (fs[i.1].length : Nat) c1 ∧ (a1 = none → c1 = 0) ∧ fs[i.1].length ≤ c1 ∧ BytesAre a1 fs[i.1] w) ∧ ∃ b off, a0 = some ⟨b, off, none⟩ ∧ b < w.heap.size ∧ w.cell? ⟨b, off + i.1, none⟩ = some u := by
    intro i
    obtain ⟨b, off, a1, c1, he, hlt, hc, hn, hl, hb⟩ := h i.1 i.2
    exact ⟨_, ⟨a1, c1, rfl, hn, hl, hb⟩, b, off, he, hlt, hc⟩
  refine ⟨List.ofFn fun i => Classical.choose (hall i), ⟨by simp, fun i hi => ?_⟩, fun j u hj => ?_⟩
  · obtain ⟨a1, c1, he, r⟩ := (Classical.choose_spec (hall ⟨i, hi⟩)).1
    exact ⟨a1, c1, by rw [List.getElem?_ofFn, dif_pos hi, he], r⟩
  · rw [List.getElem?_ofFn] at hj
    split at hj
    · rename_i hj'
      cases hj
      exact (Classical.choose_spec (hall ⟨j, hj'⟩)).2
    · cases hj
/-- The row v is the call's own behind the world w0 and holds these fields, whose bytes lie in w0. -/
def OwnF (w0 : World) (v : Value) (fs : List (List UInt8)) (w : World) : Prop := ∃ xs, w.ownsRow w0.heap.size 23 1 v fs.length xs ∧ Flds fs xs w0 ∧ Below w0.heap.size w0 w
theorem ownF_nil (w : World) : OwnF w (.slice none 0 0) [] w := ⟨[], World.ownsRow_nil w w.heap.size _ 1, ⟨rfl, fun i hi => by simp at hi⟩, Below.refl _ _⟩
theorem OwnF.fields {w0 w : World} {v : Value} {fs : List (List UInt8)} (h : OwnF w0 v fs w) : ∃ (a1 : Option Addr) (c1 : Nat), v = .slice a1 fs.length c1 ∧ (a1 = none → c1 = 0) ∧ fs.length ≤ c1 ∧ FieldsAre a1 fs w := by
  obtain ⟨xs, ho, hf, hb⟩ := h
  rcases ho.2 with ⟨rfl, h0⟩ | ⟨g, cap, cur, rfl, hB, hg, hn, hc, hs, ht⟩
  · exact ⟨none, 0, by rw [h0], fun _ => rfl, by omega, fun i hi => by omega⟩
  · refine ⟨some ⟨g, 0, none⟩, cap, rfl, (by intro h; cases h), hn, fun i hi => ?_⟩
    obtain ⟨a1, c1, hx, r1, r2, r3⟩ := hf.2 i hi
    refine ⟨g, 0, a1, c1, rfl, (Array.getElem?_eq_some_iff.1 hg).1, ?_, r1, r2, r3.below (Nat.le_refl _) hb⟩
    have h1 : cur.toList[i]? = xs[i]? := by
      have := congrArg (fun x : List Value => x[i]?) ht
      simpa only [Nat.mul_one, List.getElem?_take, hi, if_true] using this
    rw [hx] at h1
    rw [Lib.cell_of_heap hg]
    simpa using h1
theorem Flds.one {fs : List (List UInt8)} {xs : List Value} {w : World} (h : Flds fs xs w) : ∀ u ∈ xs, u.oneCell' = true := by
  intro u hu
  obtain ⟨i, hi, rfl⟩ := List.mem_iff_getElem.1 hu
  obtain ⟨a1, c1, hx, _⟩ := h.2 i (by rw [← h.1]; exact hi)
  rw [List.getElem?_eq_getElem hi] at hx
  rw [Option.some.inj hx]
  rfl
set_option linter.unusedVariables false in
theorem wpList_ownF {ops : Array Oper} {rest : List Oper} {o : Oper} {a : Act} {Q : Exit → Act → World → Prop} (hgd : o.guard = none) (s x : Operand)
    (ho : o.op = .call { callee := .builtin .append, args := #[s, x], argTypes := #[27, 27] })
    {w0 : World} {v : Value} {fs : List (List UInt8)} (gs : List (List UInt8)) (a1 : Option Addr) (c1 : Nat) {w : World} (hown : OwnF w0 v fs w) (hs : a.eval s = v) (hx : a.eval x = .slice a1 gs.length c1)
    (hn : a1 = none → c1 = 0) (hm : FieldsAre a1 gs w0) (hlen : fs.length + gs.length ≤ 1000000)
    (h : ∀ v' w', OwnF w0 v' (fs ++ gs) w' → Below w0.heap.size w w' → wpList Try.prog ops Q rest (a.put o.dst v') w') :
    wpList Try.prog ops Q (o :: rest) a w := by
  obtain ⟨i0, hi, hz0', hz1', hz2'⟩ := info_parts infoSlice
  obtain ⟨xs, hrow, hf, hb⟩ := hown
  cases a1 with
  | none =>
    have hm0 : gs = [] := by
      cases gs with
      | nil => rfl
      | cons c t => obtain ⟨b, off, a1, c1, he, _⟩ := hm 0 (by simp); cases he
    subst hm0
    rw [hn rfl] at hx
    refine wpList_append_own_none hgd s x 27 ho w0.heap.size 23 i0 1 Try.underlying27 hi v fs.length _ hs hrow hx ?_
    exact h v w (by rw [List.append_nil]; exact ⟨xs, hrow, hf, hb⟩) (Below.refl _ _)
  | some ad =>
    obtain ⟨ys, hy, hcell⟩ := hm.flds
    refine wpList_append_own _ hgd s x 27 ho w0.heap.size 23 i0 (.slice none 0 0) 1 24 Try.underlying27 hi hz0' hz1' hz2' rfl (by decide) v fs.length xs hs hrow ad gs.length c1 ys hx (by rw [hy.1]; omega) ?_ hy.one ?_ ?_ hb.size ?_
    · intro j u hj
      obtain ⟨b, off, he, hlt, hc⟩ := hcell j u hj
      cases he
      rw [add_off, hb.cell (p := ⟨b, off + j, none⟩) hlt, hc]
    · unfold maxLen; omega
    · omega
    · intro v' w' hown' hgrow _
      have hb2 : Below w0.heap.size w w' := (Below.refl _ w).grown hgrow hb.size (fun k hk => (World.ownsRow.lt hrow k hk).1)
      refine h v' w' ⟨xs ++ ys, ?_, hf.append hy, hb.trans hb2⟩ hb2
      simpa using hown'
theorem frameL_20 (A : List (List UInt8)) (la : A.length ≤ 40) (ea : ∀ f ∈ A, f.length ≤ 300) : (frameL A).length ≤ 20000 := by
  have : ∀ (A : List (List UInt8)), (∀ f ∈ A, f.length ≤ 300) → (frameL A).length ≤ A.length * 308 := by
    intro A
    induction A with
    | nil => intro _; simp [frameL]
    | cons f fs ih =>
      intro h
      have h1 := h f (by simp)
      have h2 := ih fun g hg => h g (by simp [hg])
      simp only [frameL, List.length_append, lenB_length, List.length_cons]
      omega
  have := this A ea
  omega
theorem frame_all (A C : List (List UInt8)) (a : Option Addr) (c : Nat) (w : World) (hl : (A ++ C).length ≤ 1000) (hf : ∀ f ∈ A ++ C, f.length ≤ 100000) (hc : (A ++ C).length ≤ c) (hF : FieldsAre a (A ++ C) w) :
    Calls Try.prog 12 #[.slice a (A.length + C.length) c] w (MadeBytes (frameL (A ++ C)) w) := by
  have := frame_any a (A ++ C) c w hl hf hc hF
  rw [List.length_append] at this
  exact this
theorem conv_as {a1 : Option Addr} {l : List UInt8} {w : World} {c : Nat} (h : BytesAre a1 l w) (hn : a1 = none → c = 0) (t : ByteArray) (ht : (⟨l.toArray⟩ : ByteArray) = t) : (convert 23 9 (.slice a1 l.length c)).run Try.prog w = .ok (.string t) w := by
  rw [← ht]
  exact conv_bytes h hn
end Go.Proofs.Ytiomdikompodfaa
