/- The draw's numbers that are often out of range. Rows of values that a call owns. Rows of values beside the choices: what a draw and a store into one block leave as it was. -/
import Derived.Test.YtipncjbgippkcaaDoorPf
import Derived.Test.YtipncjbgippkcaaDoorPi
import Derived.Laws.AppendOwn
/- The draw's numbers that are often out of range. -/
namespace Go.Proofs.YtipncjbgippkcaaDoor
open Go Go.RowKit

def drawNumbers : List Int := [0, (-1), 1, 2, 8, 9, 10000, 10001, 1099511627776, 1099511627777, (-1099511627777), 1099511627777, 4, 5, 6]
set_option maxHeartbeats 4000000 in
theorem drawNum_any (l : List UInt8) (a0 : Option Addr) (cap C at_ : Nat) (w : World) (hl : l.length ≤ 1000000) (h : Codes l a0 cap C at_ w) :
    Calls Tryd.prog 13 #[.pointer (some ⟨C, 0, none⟩)] w (fun e w' => (∃ z : Int, e = .returned (.int .i64 z)) ∧ Kept C w w' ∧ ∃ at2, Codes l a0 cap C at2 w') := by
  have hb9 := (Below.refl w.heap.size w).alloc (Nat.le_refl _) (.cells #[.int .i64 0, .int .i64 (-1), .int .i64 1, .int .i64 2, .int .i64 8, .int .i64 9, .int .i64 10000, .int .i64 10001, .int .i64 1099511627776, .int .i64 1099511627777, .int .i64 (-1099511627777), .int .i64 1099511627777, .int .i64 4, .int .i64 5, .int .i64 6] 3)
  have hrow : ∀ i (hi : i < drawNumbers.length), (w.alloc (.cells #[.int .i64 0, .int .i64 (-1), .int .i64 1, .int .i64 2, .int .i64 8, .int .i64 9, .int .i64 10000, .int .i64 10001, .int .i64 1099511627776, .int .i64 1099511627777, .int .i64 (-1099511627777), .int .i64 1099511627777, .int .i64 4, .int .i64 5, .int .i64 6] 3)).cell? ⟨w.heap.size, i, none⟩ = some (.int .i64 drawNumbers[i]) := by
    intro i hi
    rw [Lib.cell_of_heap (heap_alloc_new w _)]
    have hi9 : i < 15 := hi
    match i, hi9 with
    | 0, _ => rfl
    | 1, _ => rfl
    | 2, _ => rfl
    | 3, _ => rfl
    | 4, _ => rfl
    | 5, _ => rfl
    | 6, _ => rfl
    | 7, _ => rfl
    | 8, _ => rfl
    | 9, _ => rfl
    | 10, _ => rfl
    | 11, _ => rfl
    | 12, _ => rfl
    | 13, _ => rfl
    | 14, _ => rfl
    | i + 15, h => omega
  have hc0 := h.below hb9
  have hk0 := Kept.of_below (C := C) hb9
  have hgC : w.heap.size ≠ C := by have h1 := h.lt; omega
  have hg9 : w.heap.size < (w.alloc (.cells #[.int .i64 0, .int .i64 (-1), .int .i64 1, .int .i64 2, .int .i64 8, .int .i64 9, .int .i64 10000, .int .i64 10001, .int .i64 1099511627776, .int .i64 1099511627777, .int .i64 (-1099511627777), .int .i64 1099511627777, .int .i64 4, .int .i64 5, .int .i64 6] 3)).heap.size := by simp
  go_enter Tryd.func13, Tryd.ntmps13
  go_upto_region 2 with (fail)
  generalize w.alloc (.cells #[.int .i64 0, .int .i64 (-1), .int .i64 1, .int .i64 2, .int .i64 8, .int .i64 9, .int .i64 10000, .int .i64 10001, .int .i64 1099511627776, .int .i64 1099511627777, .int .i64 (-1099511627777), .int .i64 1099511627777, .int .i64 4, .int .i64 5, .int .i64 6] 3) = w5 at hc0 hk0 hrow hg9 ⊢
  generalize w.heap.size = g at hrow hg9 hgC ⊢
  have hn := Lib.hid (next_any l a0 cap C at_ 15 w5 hl (by omega) (by omega) hc0)
  have hr := nextN_lt l at_ 15 (by omega)
  generalize nextN l at_ 15 = r at hn hr
  have hr2 : r < drawNumbers.length := hr
  have hr' : (r : Int) < 15 := by omega
  obtain ⟨z, hs⟩ : ∃ z, drawNumbers[r] = z := ⟨_, rfl⟩
  have ht := hrow r hr2
  rw [hs] at ht
  replace hs := Lib.hid hs
  replace hr2 := Lib.hid hr2
  clear hrow hb9
  go_wp2_with (go_at_call 12; refine hn.out.mono ?_; rintro e w1 ⟨rfl, hk1, at2, hc1⟩; have ht2 : w1.cell? ⟨g, r, none⟩ = some (.int .i64 z) := (by rw [hk1.cell (p := ⟨g, r, none⟩) hg9 hgC]; exact ht))
  go_ret
  exact ⟨⟨z, rfl⟩, hk0.trans hk1, at2, hc1⟩
end Go.Proofs.YtipncjbgippkcaaDoor
/- Rows of values that a call owns. -/
namespace Go.Proofs.YtipncjbgippkcaaDoor
open Go Go.RowKit

theorem infoVal : (Tryd.prog.info? 24).map (fun i => (i.zero, i.size, i.bytes)) = some (some (.agg #[.int .i64 0, .int .i64 0, .string ⟨#[]⟩, .slice none 0 0]), 4, 56) := by kernel_rfl
/-- A value as it lies in memory. -/
structure El where
  x : Val
  a : Option Addr
  c : Nat
def El.cells (e : El) : List Value := [.int .i64 e.x.kind, .int .i64 e.x.num, .string e.x.text, .slice e.a (e.x.list.length : Nat) e.c]
def rowCells (es : List El) : List Value := es.flatMap El.cells
theorem rowCells_length (es : List El) : (rowCells es).length = es.length * 4 := by
  induction es with
  | nil => rfl
  | cons e t ih =>
    show (e.cells ++ rowCells t).length = _
    rw [List.length_append, ih, List.length_cons]
    show 4 + _ = _
    omega
theorem rowCells_at : ∀ (es : List El) (i : Nat) (hi : i < es.length) (j : Nat), j < 4 → (rowCells es)[i * 4 + j]? = es[i].cells[j]?
  | e :: t, 0, _, j, hj => by
    show (e.cells ++ rowCells t)[0 * 4 + j]? = e.cells[j]?
    rw [List.getElem?_append_left (by show _ < 4; omega), Nat.zero_mul, Nat.zero_add]
  | e :: t, i + 1, hi, j, hj => by
    show (e.cells ++ rowCells t)[(i + 1) * 4 + j]? = _
    have h4 : e.cells.length = 4 := rfl
    rw [List.getElem?_append_right (by rw [h4]; omega), h4, show (i + 1) * 4 + j - 4 = i * 4 + j by omega]
    exact rowCells_at t i (by simpa using hi) j hj
/-- The slice v is the call's own and holds these values. -/
structure VRow (es : List El) (B : Nat) (v : Value) (w : World) : Prop where
  own : w.ownsRow B 24 4 v es.length (rowCells es)
  ok : ∀ e ∈ es, TextsAre e.a e.x.list w ∧ FitV e.x
theorem VRow.below {es : List El} {B : Nat} {v : Value} {w w' : World} (h : VRow es B v w) (hb : Below w.heap.size w w') : VRow es B v w' := by
  refine ⟨⟨h.own.1, ?_⟩, fun e he => ⟨(h.ok e he).1.below (Nat.le_refl _) hb, (h.ok e he).2⟩⟩
  rcases h.own.2 with h0 | ⟨g, cap, cur, hv, hB, hg, rest⟩
  · exact .inl h0
  · have hlt : g < w.heap.size := (Array.getElem?_eq_some_iff.1 hg).1
    exact .inr ⟨g, cap, cur, hv, hB, (hb.block g hlt).trans hg, rest⟩
theorem VRow.made (es : List El) (B : Nat) (W : World) (hB : B ≤ W.heap.size) (h0 : es.length ≤ 1000) (hok : ∀ e ∈ es, TextsAre e.a e.x.list W ∧ FitV e.x) : VRow es B (.slice (some ⟨W.heap.size, 0, none⟩) es.length es.length) (W.alloc (.cells (rowCells es).toArray 24)) := by
  have hb := (Below.refl W.heap.size W).alloc (Nat.le_refl _) (.cells (rowCells es).toArray 24)
  refine ⟨⟨rowCells_length es, .inr ⟨W.heap.size, es.length, (rowCells es).toArray, rfl, hB, heap_alloc_new W _, Nat.le_refl _, by unfold maxLen; omega, by rw [List.size_toArray]; exact rowCells_length es, ?_⟩⟩, fun e he => ⟨(hok e he).1.below (Nat.le_refl _) hb, (hok e he).2⟩⟩
  rw [List.take_of_length_le (by rw [rowCells_length]; exact Nat.le_refl _)]
theorem VRow.elem {es : List El} {B : Nat} {v : Value} {w : World} (h : VRow es B v w) (hne : 0 < es.length) : ∃ g cap : Nat, v = .slice (some ⟨g, 0, none⟩) es.length cap ∧ es.length ≤ cap ∧ ∀ i (hi : i < es.length), Elem es[i].x es[i].a es[i].c g (i * 4) w ∧ FitV es[i].x := by
  rcases h.own.2 with ⟨_, h0⟩ | ⟨g, cap, cur, hv, hB, hg, hn, hc, hs, ht⟩
  · omega
  · refine ⟨g, cap, hv, hn, fun i hi => ?_⟩
    have hcell : ∀ j, j < 4 → w.cell? ⟨g, i * 4 + j, none⟩ = es[i].cells[j]? := by
      intro j hj
      have h1 := rowCells_at es i hi j hj
      rw [← ht, List.getElem?_take, if_pos (by omega)] at h1
      rw [Lib.cell_of_heap hg, ← Array.getElem?_toList]
      exact h1
    have hok := h.ok _ (List.getElem_mem hi)
    exact ⟨⟨hcell 0 (by omega), hcell 1 (by omega), hcell 2 (by omega), hcell 3 (by omega), hok.1, (Array.getElem?_eq_some_iff.1 hg).1⟩, hok.2⟩
/-- These texts don't lie in block r. -/
def TextsOff (r : Option Nat) (a0 : Option Addr) (l : List ByteArray) : Prop := ∀ b off, l ≠ [] → a0 = some ⟨b, off, none⟩ → r ≠ some b
/-- 'append' of one value. -/
theorem wpList_vrow {ops : Array Oper} {rest : List Oper} {o : Oper} {a : Act} {Q : Exit → Act → World → Prop} (hgd : o.guard = none) (s x : Operand)
    (ho : o.op = .call { callee := .builtin .append, args := #[s, x], argTypes := #[31, 31] })
    {es : List El} {B : Nat} {v : Value} {w : World} (e : El) (hrow : VRow es B v w) (hs : a.eval s = v) (hx : a.eval x = .slice (some ⟨w.heap.size, 0, none⟩) 1 1) (hlen : es.length ≤ 1000) (hok : TextsAre e.a e.x.list w ∧ FitV e.x)
    (hoff : ∀ d ∈ es ++ [e], TextsOff v.ownBlock d.a d.x.list) (hB : B ≤ w.heap.size)
    (h : ∀ v' w', VRow (es ++ [e]) B v' w' → Below B w w' → wpList Tryd.prog ops Q rest (a.put o.dst v') w') :
    wpList Tryd.prog ops Q (o :: rest) a (w.alloc (.cells e.cells.toArray 24)) := by
  obtain ⟨i0, hi, hz0', hz1', hz2'⟩ := info_parts infoVal
  have hcl : ∀ j u, e.cells[j]? = some u → (w.alloc (.cells e.cells.toArray 24)).cell? ((⟨w.heap.size, 0, none⟩ : Addr).add j) = some u := by
    intro j u hj
    rw [addr_off, Nat.zero_add, Lib.cell_of_heap (heap_alloc_new w _)]
    simpa using hj
  refine wpList_append_own _ hgd s x 31 ho B 24 i0 _ 4 56 Tryd.underlying31 hi hz0' hz1' hz2' rfl (by decide) v es.length _ hs (World.ownsRow.alloc hrow.own _) ⟨w.heap.size, 0, none⟩ 1 1 e.cells hx rfl hcl ?_ ?_ ?_ ?_ ?_
  · intro u hu
    simp [El.cells] at hu
    rcases hu with rfl | rfl | rfl | rfl <;> rfl
  · unfold maxLen; omega
  · omega
  · simp; omega
  · intro v' w' hown' hgrow _
    have hbel : Below B w w' := ((Below.refl B w).alloc hB _).grown hgrow (by simp; omega) (fun k hk => (World.ownsRow.lt hrow.own k hk).1)
    have htx : ∀ d ∈ es ++ [e], TextsAre d.a d.x.list w → TextsAre d.a d.x.list w' := by
      intro d hd ht j hj
      obtain ⟨b, off, e1, e2, e3⟩ := ht j hj
      have hne : d.x.list ≠ [] := by rintro he; rw [he] at hj; simp at hj
      have hoffb := hoff d hd b off hne e1
      refine ⟨b, off, e1, Nat.lt_of_lt_of_le e2 hbel.size, ?_⟩
      rw [← e3]
      refine World.cell?_of_block (w := w) ?_
      rw [hgrow.block b (by simp; omega) (fun h => hoffb h.symm), Lib.alloc_old w _ b e2]
    refine h v' w' ⟨?_, fun d hd => ?_⟩ hbel
    · have hc : rowCells (es ++ [e]) = rowCells es ++ e.cells := by simp [rowCells]
      rw [hc, List.length_append]
      exact hown'
    · rcases List.mem_append.1 hd with hd' | hd'
      · exact ⟨htx d hd (hrow.ok d hd').1, (hrow.ok d hd').2⟩
      · obtain rfl := List.mem_singleton.1 hd'
        exact ⟨htx d hd hok.1, hok.2⟩
end Go.Proofs.YtipncjbgippkcaaDoor
/- Rows of values beside the choices: what a draw and a store into one block leave as it was. -/
namespace Go.Proofs.YtipncjbgippkcaaDoor
open Go Go.RowKit

/-- Two blocks may have changed, and new ones may have come. -/
structure Moved (C P : Nat) (w w' : World) : Prop where
  os : w'.os = w.os
  tape : w'.tape = w.tape
  output : w'.output = w.output
  size : w.heap.size ≤ w'.heap.size
  block : ∀ k, k < w.heap.size → k ≠ C → k ≠ P → w'.heap[k]? = w.heap[k]?
theorem Moved.refl (C P : Nat) (w : World) : Moved C P w w := ⟨rfl, rfl, rfl, Nat.le_refl _, fun _ _ _ _ => rfl⟩
theorem Moved.trans {C P : Nat} {a b c : World} (h : Moved C P a b) (k : Moved C P b c) : Moved C P a c :=
  ⟨k.os.trans h.os, k.tape.trans h.tape, k.output.trans h.output, Nat.le_trans h.size k.size, fun i hi h1 h2 => (k.block i (Nat.lt_of_lt_of_le hi h.size) h1 h2).trans (h.block i hi h1 h2)⟩
theorem Moved.of_kept {C P : Nat} {w w' : World} (h : Kept C w w') : Moved C P w w' := ⟨h.os, h.tape, h.output, h.size, fun k hk hc _ => h.block k hk hc⟩
theorem Moved.of_below {C P : Nat} {w w' : World} (h : Below w.heap.size w w') : Moved C P w w' := ⟨h.os, h.tape, h.output, h.size, fun k hk _ _ => h.block k hk⟩
theorem Moved.set {C P : Nat} {w w' : World} (h : Moved C P w w') (i : Nat) (v : Value) : Moved C P w (w'.setCell ⟨P, i, none⟩ v) :=
  ⟨h.os, h.tape, h.output, by simpa using h.size, fun k hk hc hp => by rw [Below.heap_setCell _ _ _ _ (by show k ≠ P; omega)]; exact h.block k hk hc hp⟩
theorem Moved.below {C P B : Nat} {w w' : World} (h : Moved C P w w') (hC : B ≤ C) (hP : B ≤ P) (hB : B ≤ w.heap.size) : Below B w w' :=
  ⟨h.os, h.tape, h.output, h.size, fun k hk => h.block k (by omega) (by omega) (by omega)⟩
theorem TextsAre.moved {C P : Nat} {a : Option Addr} {l : List ByteArray} {w w' : World} (h : TextsAre a l w) (m : Moved C P w w') (hC : TextsOff (some C) a l) (hP : TextsOff (some P) a l) : TextsAre a l w' := by
  intro i hi
  obtain ⟨b, off, e1, e2, e3⟩ := h i hi
  have hne : l ≠ [] := by rintro rfl; simp at hi
  have h1 := hC b off hne e1
  have h2 := hP b off hne e1
  refine ⟨b, off, e1, Nat.lt_of_lt_of_le e2 m.size, ?_⟩
  rw [← e3]
  exact World.cell?_of_block (w := w) (m.block b e2 (fun e => h1 (by rw [e])) (fun e => h2 (by rw [e])))
theorem VRow.moved {es : List El} {B R C P : Nat} {n c : Nat} {w w' : World} (h : VRow es B (.slice (some ⟨R, 0, none⟩) n c) w) (m : Moved C P w w') (hC : R ≠ C) (hP : R ≠ P)
    (ho : ∀ e ∈ es, TextsOff (some C) e.a e.x.list ∧ TextsOff (some P) e.a e.x.list) : VRow es B (.slice (some ⟨R, 0, none⟩) n c) w' := by
  refine ⟨⟨h.own.1, ?_⟩, fun e he => ⟨(h.ok e he).1.moved m (ho e he).1 (ho e he).2, (h.ok e he).2⟩⟩
  rcases h.own.2 with h0 | ⟨g, cap, cur, hv, hB, hg, rest⟩
  · exact .inl h0
  · have hlt : g < w.heap.size := (Array.getElem?_eq_some_iff.1 hg).1
    have hgR : R = g := by
      injection hv with h1
      injection h1 with h2
      injection h2
    exact .inr ⟨g, cap, cur, hv, hB, (m.block g hlt (hgR ▸ hC) (hgR ▸ hP)).trans hg, rest⟩
theorem OwnT.kept {B C : Nat} {v : Value} {l : List ByteArray} {w w' : World} (h : OwnT B v l w) (hk : Kept C w w') (hC : C < B) : OwnT B v l w' := by
  refine ⟨h.1, ?_⟩
  rcases h.2 with h0 | ⟨g, cap, cur, hv, hB, hg, rest⟩
  · exact .inl h0
  · have hlt : g < w.heap.size := (Array.getElem?_eq_some_iff.1 hg).1
    exact .inr ⟨g, cap, cur, hv, hB, (hk.block g hlt (by omega)).trans hg, rest⟩
theorem Kept.then_below {C : Nat} {w w1 w2 : World} (h : Kept C w w1) (hb : Below w.heap.size w1 w2) : Kept C w w2 :=
  ⟨hb.os.trans h.os, hb.tape.trans h.tape, hb.output.trans h.output, Nat.le_trans h.size hb.size, fun k hk hc => (hb.block k hk).trans (h.block k hk hc)⟩
theorem VRow.elemN {es : List El} {B : Nat} {v : Value} {w : World} (h : VRow es B v w) (n : Nat) (hn : es.length = n) (h0 : 0 < n) : ∃ g cap : Nat, v = .slice (some ⟨g, 0, none⟩) n cap ∧ n ≤ cap ∧ g < w.heap.size ∧ ∀ i, i < n → ∃ (x : Val) (a : Option Addr) (c : Nat), Elem x a c g (i * 4) w ∧ FitV x := by
  subst hn
  obtain ⟨g, cap, hv, hc, hel⟩ := h.elem h0
  exact ⟨g, cap, hv, hc, (hel 0 h0).1.lt, fun i hi => ⟨_, _, _, hel i hi⟩⟩
theorem off_nil (r : Option Nat) (a : Option Addr) : TextsOff r a [] := fun _ _ h _ => absurd rfl h
/-- Texts that lie in blocks of [B, E) are off every other block. -/
theorem off_in {a : Option Addr} {l : List ByteArray} {w : World} (h : TextsAre a l w) {r : Nat} (hr : w.heap.size ≤ r) : TextsOff (some r) a l := by
  intro b off hne he hb
  obtain ⟨t, l', rfl⟩ := List.exists_cons_of_ne_nil hne
  obtain ⟨b', off', e1, e2, _⟩ := h 0 (by simp)
  rw [he] at e1
  injection e1 with e1
  injection e1 with e3
  injection hb with hb
  omega
theorem off_from {B : Nat} {a : Option Addr} {l : List ByteArray} {w : World} (h : TextsFrom B a l w) {r : Nat} (hr : r < B) : TextsOff (some r) a l := by
  intro b off hne he hb
  obtain ⟨t, l', rfl⟩ := List.exists_cons_of_ne_nil hne
  obtain ⟨b', off', e1, e2, _⟩ := h 0 (by simp)
  rw [he] at e1
  injection e1 with e1
  injection e1 with e3
  injection hb with hb
  omega
theorem texts_single (s : ByteArray) (w : World) : TextsAre (some ⟨w.heap.size, 0, none⟩) [s] (w.alloc (.cells #[.string s] 9)) := by
  intro i hi
  obtain rfl : i = 0 := by simpa using hi
  refine ⟨w.heap.size, 0, rfl, by simp, ?_⟩
  rw [Lib.cell_of_heap (heap_alloc_new w _)]
  rfl
end Go.Proofs.YtipncjbgippkcaaDoor
