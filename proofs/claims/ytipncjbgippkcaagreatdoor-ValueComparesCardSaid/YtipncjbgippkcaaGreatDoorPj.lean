/- Rows of values that a call owns. Rows of values beside the choices: what a draw and a store into one block leave as it was. Contract of the document's comparison of two values. -/
import Derived.Test.YtipncjbgippkcaaGreatDoorPi
import Derived.Laws.AppendOwn
import Derived.Test.YtipncjbgippkcaaGreatDoorPf
import Derived.Test.YtipncjbgippkcaaGreatDoorPc
/- Rows of values that a call owns. -/
namespace Go.Proofs.YtipncjbgippkcaaGreatDoor
open Go Go.RowKit

theorem infoVal : (Tryz.prog.info? 29).map (fun i => (i.zero, i.size, i.bytes)) = some (some (.agg #[.int .i64 0, .int .i64 0, .string ⟨#[]⟩, .slice none 0 0]), 4, 56) := by kernel_rfl
/-- A value as it lies in memory. -/
structure El where
  x : Val
  a : Option Addr
  c : Nat
def El.cells (e : El) : List Value := [.int .i64 e.x.kind, .int .i64 e.x.num, .string e.x.text, .slice e.a (e.x.list.length : Nat) e.c]
def rowCells (es : List El) : List Value := es.flatMap El.cells
theorem rowCells_length (es : List El) : (rowCells es).length = es.length * 4 := by
  induction es with
  | nil => rfl
  | cons e t ih =>
    show (e.cells ++ rowCells t).length = _
    rw [List.length_append, ih, List.length_cons]
    show 4 + _ = _
    omega
theorem rowCells_at : ∀ (es : List El) (i : Nat) (hi : i < es.length) (j : Nat), j < 4 → (rowCells es)[i * 4 + j]? = es[i].cells[j]?
  | e :: t, 0, _, j, hj => by
    show (e.cells ++ rowCells t)[0 * 4 + j]? = e.cells[j]?
    rw [List.getElem?_append_left (by show _ < 4; omega), Nat.zero_mul, Nat.zero_add]
  | e :: t, i + 1, hi, j, hj => by
    show (e.cells ++ rowCells t)[(i + 1) * 4 + j]? = _
    have h4 : e.cells.length = 4 := rfl
    rw [List.getElem?_append_right (by rw [h4]; omega), h4, show (i + 1) * 4 + j - 4 = i * 4 + j by omega]
    exact rowCells_at t i (by simpa using hi) j hj
/-- The slice v is the call's own and holds these values. -/
structure VRow (es : List El) (B : Nat) (v : Value) (w : World) : Prop where
  own : w.ownsRow B 29 4 v es.length (rowCells es)
  ok : ∀ e ∈ es, TextsAre e.a e.x.list w ∧ FitV e.x
theorem VRow.below {es : List El} {B : Nat} {v : Value} {w w' : World} (h : VRow es B v w) (hb : Below w.heap.size w w') : VRow es B v w' := by
  refine ⟨⟨h.own.1, ?_⟩, fun e he => ⟨(h.ok e he).1.below (Nat.le_refl _) hb, (h.ok e he).2⟩⟩
  rcases h.own.2 with h0 | ⟨g, cap, cur, hv, hB, hg, rest⟩
  · exact .inl h0
  · have hlt : g < w.heap.size := (Array.getElem?_eq_some_iff.1 hg).1
    exact .inr ⟨g, cap, cur, hv, hB, (hb.block g hlt).trans hg, rest⟩
theorem VRow.made (es : List El) (B : Nat) (W : World) (hB : B ≤ W.heap.size) (h0 : es.length ≤ 1000) (hok : ∀ e ∈ es, TextsAre e.a e.x.list W ∧ FitV e.x) : VRow es B (.slice (some ⟨W.heap.size, 0, none⟩) es.length es.length) (W.alloc (.cells (rowCells es).toArray 29)) := by
  have hb := (Below.refl W.heap.size W).alloc (Nat.le_refl _) (.cells (rowCells es).toArray 29)
  refine ⟨⟨rowCells_length es, .inr ⟨W.heap.size, es.length, (rowCells es).toArray, rfl, hB, heap_alloc_new W _, Nat.le_refl _, by unfold maxLen; omega, by rw [List.size_toArray]; exact rowCells_length es, ?_⟩⟩, fun e he => ⟨(hok e he).1.below (Nat.le_refl _) hb, (hok e he).2⟩⟩
  rw [List.take_of_length_le (by rw [rowCells_length]; exact Nat.le_refl _)]
theorem VRow.elem {es : List El} {B : Nat} {v : Value} {w : World} (h : VRow es B v w) (hne : 0 < es.length) : ∃ g cap : Nat, v = .slice (some ⟨g, 0, none⟩) es.length cap ∧ es.length ≤ cap ∧ ∀ i (hi : i < es.length), Elem es[i].x es[i].a es[i].c g (i * 4) w ∧ FitV es[i].x := by
  rcases h.own.2 with ⟨_, h0⟩ | ⟨g, cap, cur, hv, hB, hg, hn, hc, hs, ht⟩
  · omega
  · refine ⟨g, cap, hv, hn, fun i hi => ?_⟩
    have hcell : ∀ j, j < 4 → w.cell? ⟨g, i * 4 + j, none⟩ = es[i].cells[j]? := by
      intro j hj
      have h1 := rowCells_at es i hi j hj
      rw [← ht, List.getElem?_take, if_pos (by omega)] at h1
      rw [Lib.cell_of_heap hg, ← Array.getElem?_toList]
      exact h1
    have hok := h.ok _ (List.getElem_mem hi)
    exact ⟨⟨hcell 0 (by omega), hcell 1 (by omega), hcell 2 (by omega), hcell 3 (by omega), hok.1, (Array.getElem?_eq_some_iff.1 hg).1⟩, hok.2⟩
/-- These texts don't lie in block r. -/
def TextsOff (r : Option Nat) (a0 : Option Addr) (l : List ByteArray) : Prop := ∀ b off, l ≠ [] → a0 = some ⟨b, off, none⟩ → r ≠ some b
/-- 'append' of one value. -/
theorem wpList_vrow {ops : Array Oper} {rest : List Oper} {o : Oper} {a : Act} {Q : Exit → Act → World → Prop} (hgd : o.guard = none) (s x : Operand)
    (ho : o.op = .call { callee := .builtin .append, args := #[s, x], argTypes := #[41, 41] })
    {es : List El} {B : Nat} {v : Value} {w : World} (e : El) (hrow : VRow es B v w) (hs : a.eval s = v) (hx : a.eval x = .slice (some ⟨w.heap.size, 0, none⟩) 1 1) (hlen : es.length ≤ 1000) (hok : TextsAre e.a e.x.list w ∧ FitV e.x)
    (hoff : ∀ d ∈ es ++ [e], TextsOff v.ownBlock d.a d.x.list) (hB : B ≤ w.heap.size)
    (h : ∀ v' w', VRow (es ++ [e]) B v' w' → Below B w w' → wpList Tryz.prog ops Q rest (a.put o.dst v') w') :
    wpList Tryz.prog ops Q (o :: rest) a (w.alloc (.cells e.cells.toArray 29)) := by
  obtain ⟨i0, hi, hz0', hz1', hz2'⟩ := info_parts infoVal
  have hcl : ∀ j u, e.cells[j]? = some u → (w.alloc (.cells e.cells.toArray 29)).cell? ((⟨w.heap.size, 0, none⟩ : Addr).add j) = some u := by
    intro j u hj
    rw [addr_off, Nat.zero_add, Lib.cell_of_heap (heap_alloc_new w _)]
    simpa using hj
  refine wpList_append_own _ hgd s x 41 ho B 29 i0 _ 4 56 Tryz.underlying41 hi hz0' hz1' hz2' rfl (by decide) v es.length _ hs (World.ownsRow.alloc hrow.own _) ⟨w.heap.size, 0, none⟩ 1 1 e.cells hx rfl hcl ?_ ?_ ?_ ?_ ?_
  · intro u hu
    simp [El.cells] at hu
    rcases hu with rfl | rfl | rfl | rfl <;> rfl
  · unfold maxLen; omega
  · omega
  · simp; omega
  · intro v' w' hown' hgrow _
    have hbel : Below B w w' := ((Below.refl B w).alloc hB _).grown hgrow (by simp; omega) (fun k hk => (World.ownsRow.lt hrow.own k hk).1)
    have htx : ∀ d ∈ es ++ [e], TextsAre d.a d.x.list w → TextsAre d.a d.x.list w' := by
      intro d hd ht j hj
      obtain ⟨b, off, e1, e2, e3⟩ := ht j hj
      have hne : d.x.list ≠ [] := by rintro he; rw [he] at hj; simp at hj
      have hoffb := hoff d hd b off hne e1
      refine ⟨b, off, e1, Nat.lt_of_lt_of_le e2 hbel.size, ?_⟩
      rw [← e3]
      refine World.cell?_of_block (w := w) ?_
      rw [hgrow.block b (by simp; omega) (fun h => hoffb h.symm), Lib.alloc_old w _ b e2]
    refine h v' w' ⟨?_, fun d hd => ?_⟩ hbel
    · have hc : rowCells (es ++ [e]) = rowCells es ++ e.cells := by simp [rowCells]
      rw [hc, List.length_append]
      exact hown'
    · rcases List.mem_append.1 hd with hd' | hd'
      · exact ⟨htx d hd (hrow.ok d hd').1, (hrow.ok d hd').2⟩
      · obtain rfl := List.mem_singleton.1 hd'
        exact ⟨htx d hd hok.1, hok.2⟩
end Go.Proofs.YtipncjbgippkcaaGreatDoor
/- Rows of values beside the choices: what a draw and a store into one block leave as it was. -/
namespace Go.Proofs.YtipncjbgippkcaaGreatDoor
open Go Go.RowKit

/-- Two blocks may have changed, and new ones may have come. -/
structure Moved (C P : Nat) (w w' : World) : Prop where
  os : w'.os = w.os
  tape : w'.tape = w.tape
  output : w'.output = w.output
  size : w.heap.size ≤ w'.heap.size
  block : ∀ k, k < w.heap.size → k ≠ C → k ≠ P → w'.heap[k]? = w.heap[k]?
theorem Moved.refl (C P : Nat) (w : World) : Moved C P w w := ⟨rfl, rfl, rfl, Nat.le_refl _, fun _ _ _ _ => rfl⟩
theorem Moved.trans {C P : Nat} {a b c : World} (h : Moved C P a b) (k : Moved C P b c) : Moved C P a c :=
  ⟨k.os.trans h.os, k.tape.trans h.tape, k.output.trans h.output, Nat.le_trans h.size k.size, fun i hi h1 h2 => (k.block i (Nat.lt_of_lt_of_le hi h.size) h1 h2).trans (h.block i hi h1 h2)⟩
theorem Moved.of_kept {C P : Nat} {w w' : World} (h : Kept C w w') : Moved C P w w' := ⟨h.os, h.tape, h.output, h.size, fun k hk hc _ => h.block k hk hc⟩
theorem Moved.of_below {C P : Nat} {w w' : World} (h : Below w.heap.size w w') : Moved C P w w' := ⟨h.os, h.tape, h.output, h.size, fun k hk _ _ => h.block k hk⟩
theorem Moved.set {C P : Nat} {w w' : World} (h : Moved C P w w') (i : Nat) (v : Value) : Moved C P w (w'.setCell ⟨P, i, none⟩ v) :=
  ⟨h.os, h.tape, h.output, by simpa using h.size, fun k hk hc hp => by rw [Below.heap_setCell _ _ _ _ (by show k ≠ P; omega)]; exact h.block k hk hc hp⟩
theorem Moved.below {C P B : Nat} {w w' : World} (h : Moved C P w w') (hC : B ≤ C) (hP : B ≤ P) (hB : B ≤ w.heap.size) : Below B w w' :=
  ⟨h.os, h.tape, h.output, h.size, fun k hk => h.block k (by omega) (by omega) (by omega)⟩
theorem TextsAre.moved {C P : Nat} {a : Option Addr} {l : List ByteArray} {w w' : World} (h : TextsAre a l w) (m : Moved C P w w') (hC : TextsOff (some C) a l) (hP : TextsOff (some P) a l) : TextsAre a l w' := by
  intro i hi
  obtain ⟨b, off, e1, e2, e3⟩ := h i hi
  have hne : l ≠ [] := by rintro rfl; simp at hi
  have h1 := hC b off hne e1
  have h2 := hP b off hne e1
  refine ⟨b, off, e1, Nat.lt_of_lt_of_le e2 m.size, ?_⟩
  rw [← e3]
  exact World.cell?_of_block (w := w) (m.block b e2 (fun e => h1 (by rw [e])) (fun e => h2 (by rw [e])))
theorem VRow.moved {es : List El} {B R C P : Nat} {n c : Nat} {w w' : World} (h : VRow es B (.slice (some ⟨R, 0, none⟩) n c) w) (m : Moved C P w w') (hC : R ≠ C) (hP : R ≠ P)
    (ho : ∀ e ∈ es, TextsOff (some C) e.a e.x.list ∧ TextsOff (some P) e.a e.x.list) : VRow es B (.slice (some ⟨R, 0, none⟩) n c) w' := by
  refine ⟨⟨h.own.1, ?_⟩, fun e he => ⟨(h.ok e he).1.moved m (ho e he).1 (ho e he).2, (h.ok e he).2⟩⟩
  rcases h.own.2 with h0 | ⟨g, cap, cur, hv, hB, hg, rest⟩
  · exact .inl h0
  · have hlt : g < w.heap.size := (Array.getElem?_eq_some_iff.1 hg).1
    have hgR : R = g := by
      injection hv with h1
      injection h1 with h2
      injection h2
    exact .inr ⟨g, cap, cur, hv, hB, (m.block g hlt (hgR ▸ hC) (hgR ▸ hP)).trans hg, rest⟩
theorem OwnT.kept {B C : Nat} {v : Value} {l : List ByteArray} {w w' : World} (h : OwnT B v l w) (hk : Kept C w w') (hC : C < B) : OwnT B v l w' := by
  refine ⟨h.1, ?_⟩
  rcases h.2 with h0 | ⟨g, cap, cur, hv, hB, hg, rest⟩
  · exact .inl h0
  · have hlt : g < w.heap.size := (Array.getElem?_eq_some_iff.1 hg).1
    exact .inr ⟨g, cap, cur, hv, hB, (hk.block g hlt (by omega)).trans hg, rest⟩
theorem Kept.then_below {C : Nat} {w w1 w2 : World} (h : Kept C w w1) (hb : Below w.heap.size w1 w2) : Kept C w w2 :=
  ⟨hb.os.trans h.os, hb.tape.trans h.tape, hb.output.trans h.output, Nat.le_trans h.size hb.size, fun k hk hc => (hb.block k hk).trans (h.block k hk hc)⟩
theorem VRow.elemN {es : List El} {B : Nat} {v : Value} {w : World} (h : VRow es B v w) (n : Nat) (hn : es.length = n) (h0 : 0 < n) : ∃ g cap : Nat, v = .slice (some ⟨g, 0, none⟩) n cap ∧ n ≤ cap ∧ g < w.heap.size ∧ ∀ i, i < n → ∃ (x : Val) (a : Option Addr) (c : Nat), Elem x a c g (i * 4) w ∧ FitV x := by
  subst hn
  obtain ⟨g, cap, hv, hc, hel⟩ := h.elem h0
  exact ⟨g, cap, hv, hc, (hel 0 h0).1.lt, fun i hi => ⟨_, _, _, hel i hi⟩⟩
theorem off_nil (r : Option Nat) (a : Option Addr) : TextsOff r a [] := fun _ _ h _ => absurd rfl h
/-- Texts that lie in blocks of [B, E) are off every other block. -/
theorem off_in {a : Option Addr} {l : List ByteArray} {w : World} (h : TextsAre a l w) {r : Nat} (hr : w.heap.size ≤ r) : TextsOff (some r) a l := by
  intro b off hne he hb
  obtain ⟨t, l', rfl⟩ := List.exists_cons_of_ne_nil hne
  obtain ⟨b', off', e1, e2, _⟩ := h 0 (by simp)
  rw [he] at e1
  injection e1 with e1
  injection e1 with e3
  injection hb with hb
  omega
theorem off_from {B : Nat} {a : Option Addr} {l : List ByteArray} {w : World} (h : TextsFrom B a l w) {r : Nat} (hr : r < B) : TextsOff (some r) a l := by
  intro b off hne he hb
  obtain ⟨t, l', rfl⟩ := List.exists_cons_of_ne_nil hne
  obtain ⟨b', off', e1, e2, _⟩ := h 0 (by simp)
  rw [he] at e1
  injection e1 with e1
  injection e1 with e3
  injection hb with hb
  omega
theorem texts_single (s : ByteArray) (w : World) : TextsAre (some ⟨w.heap.size, 0, none⟩) [s] (w.alloc (.cells #[.string s] 9)) := by
  intro i hi
  obtain rfl : i = 0 := by simpa using hi
  refine ⟨w.heap.size, 0, rfl, by simp, ?_⟩
  rw [Lib.cell_of_heap (heap_alloc_new w _)]
  rfl
end Go.Proofs.YtipncjbgippkcaaGreatDoor
/- Contract of the document's comparison of two values. -/
namespace Go.Proofs.YtipncjbgippkcaaGreatDoor
open Go Go.RowKit

theorem sign_any (x y : Bool) (w : World) : Calls Tryz.prog 34 #[.bool x, .bool y] w fun e w' => e = .returned (.int .i64 (signI x y)) ∧ w = w' := by
  cases x <;> cases y
  all_goals
    go_enter Tryz.func34, Tryz.ntmps34
    go_wp2
    go_ret
    exact ⟨rfl, rfl⟩
set_option maxHeartbeats 8000000 in
theorem refCompare_any (x y : Val) (a0 b0 : Option Addr) (ca cb : Nat) (w : World) (hx : x.text.size ≤ 9223372036854775806) (hxl : x.list.length ≤ 9223372036854775806) (hxs : ∀ s ∈ x.list, s.size ≤ 9223372036854775806)
    (hy : y.text.size ≤ 9223372036854775806) (hyl : y.list.length ≤ 9223372036854775806) (hys : ∀ s ∈ y.list, s.size ≤ 9223372036854775806) (hT : Tabs w) (hA : TextsAre a0 x.list w) (hB : TextsAre b0 y.list w) :
    Calls Tryz.prog 17 #[x.agg a0 ca, y.agg b0 cb] w fun e w' => e = .returned (numE (cmpP x y).1 (cmpP x y).2) ∧ Below w.heap.size w w' := by
  have hs0 := Box2.start x y a0 b0 ca cb w
  have hcx := Lib.hid (fun W (h : Below w.heap.size w W) => refCheck_any x a0 ca W hx hxl hxs (hT.below h) (hA.below (Nat.le_refl _) h))
  have hcy := Lib.hid (fun W (h : Below w.heap.size w W) => refCheck_any y b0 cb W hy hyl hys (hT.below h) (hB.below (Nat.le_refl _) h))
  have hpx := Lib.hid (fun W => refParts_any x.text W hx)
  have hpy := Lib.hid (fun W => refParts_any y.text W hy)
  have kx := Lib.hid (checkE_kind x)
  have ky := Lib.hid (checkE_kind y)
  have vx := Lib.hid (checkE_ver x)
  have vy := Lib.hid (checkE_ver y)
  obtain ⟨r, hr⟩ : ∃ r, cmpP x y = r := ⟨_, rfl⟩
  rw [hr]
  unfold cmpP at hr
  generalize checkE x = ex at hcx hr kx vx
  generalize checkE y = ey at hcy hr ky vy
  clear hxs hys hA hB hxl hyl hx hy
  obtain ⟨k, n, t, l⟩ := x
  obtain ⟨k', n', t', l'⟩ := y
  unfold Val.agg at hcx hcy ⊢
  replace hcx := Lib.hid hcx.out
  replace hcy := Lib.hid hcy.out
  simp only at hr hs0
  by_cases h1 : ex = 0
  · subst h1
    rw [if_neg (by simp)] at hr
    by_cases h2 : ey = 0
    · subst h2
      rw [if_neg (by simp)] at hr
      have kx1 := (kx.out rfl).1
      have kx5 := (kx.out rfl).2
      simp only at kx1 kx5
      clear kx ky
      go_enter Tryz.func17, Tryz.ntmps17
      go_upto_region 1 with (fail)
      generalize (w.alloc (.cells #[.int .i64 k, .int .i64 n, .string t, .slice a0 l.length ca] 29)).alloc (.cells #[.int .i64 k', .int .i64 n', .string t', .slice b0 l'.length cb] 29) = w0 at hs0 ⊢
      have p0 : w0.cell? ⟨w.heap.size, 0, none⟩ = some (.int .i64 k) := (by rw [Lib.cell_of_heap hs0.one]; rfl)
      have p1 : w0.cell? ⟨w.heap.size, 1, none⟩ = some (.int .i64 n) := (by rw [Lib.cell_of_heap hs0.one]; rfl)
      have p2 : w0.cell? ⟨w.heap.size, 2, none⟩ = some (.string t) := (by rw [Lib.cell_of_heap hs0.one]; rfl)
      have p3 : w0.cell? ⟨w.heap.size, 3, none⟩ = some (.slice a0 l.length ca) := (by rw [Lib.cell_of_heap hs0.one]; rfl)
      go_upto_region 7 with (first | (go_at_call 20; go_fit (hcx.out _ hs0.below); rintro e w1 ⟨rfl, hb1⟩; have hs1 := hs0.grown hb1; have q0 : w1.cell? ⟨w.heap.size + 1, 0, none⟩ = some (.int .i64 k') := (by rw [Lib.cell_of_heap hs1.two]; rfl); have q1 : w1.cell? ⟨w.heap.size + 1, 1, none⟩ = some (.int .i64 n') := (by rw [Lib.cell_of_heap hs1.two]; rfl); have q2 : w1.cell? ⟨w.heap.size + 1, 2, none⟩ = some (.string t') := (by rw [Lib.cell_of_heap hs1.two]; rfl); have q3 : w1.cell? ⟨w.heap.size + 1, 3, none⟩ = some (.slice b0 l'.length cb) := (by rw [Lib.cell_of_heap hs1.two]; rfl)) | (go_at_call 20; go_fit (hcy.out _ hs1.below); rintro e w2 ⟨rfl, hb2⟩; have hs2 := hs1.grown hb2; have u0 : w2.cell? ⟨w.heap.size, 0, none⟩ = some (.int .i64 k) := (by rw [Lib.cell_of_heap hs2.one]; rfl); have u1 : w2.cell? ⟨w.heap.size, 1, none⟩ = some (.int .i64 n) := (by rw [Lib.cell_of_heap hs2.one]; rfl); have u2 : w2.cell? ⟨w.heap.size, 2, none⟩ = some (.string t) := (by rw [Lib.cell_of_heap hs2.one]; rfl); have u3 : w2.cell? ⟨w.heap.size, 3, none⟩ = some (.slice a0 l.length ca) := (by rw [Lib.cell_of_heap hs2.one]; rfl); have v0 : w2.cell? ⟨w.heap.size + 1, 0, none⟩ = some (.int .i64 k') := (by rw [Lib.cell_of_heap hs2.two]; rfl); have v1 : w2.cell? ⟨w.heap.size + 1, 1, none⟩ = some (.int .i64 n') := (by rw [Lib.cell_of_heap hs2.two]; rfl); have v2 : w2.cell? ⟨w.heap.size + 1, 2, none⟩ = some (.string t') := (by rw [Lib.cell_of_heap hs2.two]; rfl); have v3 : w2.cell? ⟨w.heap.size + 1, 3, none⟩ = some (.slice b0 l'.length cb) := (by rw [Lib.cell_of_heap hs2.two]; rfl)))
      clear p0 p1 p2 p3 q0 q1 q2 q3 hs0 hs1 hb1 hb2 hcx hcy
      by_cases h3 : k ≠ k' ∨ k = 1 ∨ k = 5
      · rw [if_pos h3] at hr
        replace hr := Lib.hid hr
        have h4 : ¬ k = k' ∨ (k = k' ∧ k = 1) ∨ (k = k' ∧ ¬ k = 1 ∧ k = 5) := by omega
        clear h3
        rcases h4 with h4 | ⟨rfl, rfl⟩ | ⟨rfl, h5, rfl⟩
        · have hne : (k != k') = true := by simp; exact h4
          go_wp2
          go_ret2
          exact ⟨by rw [← hr.out]; rfl, hs2.below⟩
        all_goals
          go_wp2
          go_ret2
          exact ⟨by rw [← hr.out]; rfl, hs2.below⟩
      · rw [if_neg h3] at hr
        obtain rfl : k = k' := by omega
        have hk : k = 2 ∨ k = 3 ∨ k = 4 := by omega
        clear h3 kx1 kx5
        rcases hk with rfl | rfl | rfl
        · rw [if_pos rfl] at hr
          replace hr := Lib.hid hr
          go_wp2_with (go_at_call 34; refine (sign_any _ _ _).mono ?_; rintro e w3 ⟨rfl, rfl⟩)
          go_ret2
          exact ⟨by rw [← hr.out]; rfl, hs2.below⟩
        · rw [if_neg (by decide), if_pos rfl] at hr
          replace hr := Lib.hid hr
          go_wp2_with (go_at_call 34; refine (sign_any _ _ _).mono ?_; rintro e w3 ⟨rfl, rfl⟩)
          go_ret2
          exact ⟨by rw [← hr.out]; rfl, hs2.below⟩
        · rw [if_neg (by decide), if_neg (by decide)] at hr
          replace hr := Lib.hid hr
          have gx : verOk t := vx.out (by simp) (by simp)
          have gy : verOk t' := vy.out (by simp) (by simp)
          have hqx := Lib.hid (fun W => (by have h := hpx.out W; rw [show verV t = _ from if_pos gx] at h; exact h : Calls Tryz.prog 35 #[.string t] W fun e w' => e = .returned (.tuple #[.agg #[.int .i64 (verN t 0), .int .i64 (verN t 1), .int .i64 (verN t 2)], .bool true]) ∧ Below W.heap.size W w'))
          have hqy := Lib.hid (fun W => (by have h := hpy.out W; rw [show verV t' = _ from if_pos gy] at h; exact h : Calls Tryz.prog 35 #[.string t'] W fun e w' => e = .returned (.tuple #[.agg #[.int .i64 (verN t' 0), .int .i64 (verN t' 1), .int .i64 (verN t' 2)], .bool true]) ∧ Below W.heap.size W w'))
          clear vx vy hpx hpy
          replace gx := Lib.hid gx
          replace gy := Lib.hid gy
          go_upto_region 16 with (first
            | (go_at_call 35; go_fit (hqx.out _); rintro e w3 ⟨rfl, hb3⟩; have hs3 := hs2.grown hb3; have hs3b := hs3.grown ((Below.refl _ w3).alloc (Nat.le_refl _) (.cells #[.int .i64 (verN t 0), .int .i64 (verN t 1), .int .i64 (verN t 2)] 62)); have q2 : (w3.alloc (.cells #[.int .i64 (verN t 0), .int .i64 (verN t 1), .int .i64 (verN t 2)] 62)).cell? ⟨w.heap.size + 1, 2, none⟩ = some (.string t') := (by rw [Lib.cell_of_heap hs3b.two]; rfl))
            | (go_at_call 35; go_fit (hqy.out _); rintro e w4 ⟨rfl, hb4⟩))
          have cX : ∀ j, j < 3 → (w4.alloc (.cells #[.int .i64 (verN t' 0), .int .i64 (verN t' 1), .int .i64 (verN t' 2)] 62)).cell? ⟨w3.heap.size, j, none⟩ = some (.int .i64 (verN t j)) := by
            intro j hj
            have h4 := hb4.cell (p := ⟨w3.heap.size, j, none⟩) (by simp)
            have h5 := ((Below.refl _ w4).alloc (Nat.le_refl _) (.cells #[.int .i64 (verN t' 0), .int .i64 (verN t' 1), .int .i64 (verN t' 2)] 62)).cell (p := ⟨w3.heap.size, j, none⟩) (by have := hb4.size; simp at this; show w3.heap.size < w4.heap.size; omega)
            rw [h5, h4, Lib.cell_of_heap (heap_alloc_new w3 _)]
            have hc : j = 0 ∨ j = 1 ∨ j = 2 := by omega
            rcases hc with rfl | rfl | rfl <;> rfl
          have cY : ∀ j, j < 3 → (w4.alloc (.cells #[.int .i64 (verN t' 0), .int .i64 (verN t' 1), .int .i64 (verN t' 2)] 62)).cell? ⟨w4.heap.size, j, none⟩ = some (.int .i64 (verN t' j)) := by
            intro j hj
            rw [Lib.cell_of_heap (heap_alloc_new w4 _)]
            have hc : j = 0 ∨ j = 1 ∨ j = 2 := by omega
            rcases hc with rfl | rfl | rfl <;> rfl
          have hbl : Below w.heap.size w (w4.alloc (.cells #[.int .i64 (verN t' 0), .int .i64 (verN t' 1), .int .i64 (verN t' 2)] 62)) := linkB hs2.below (linkB hb3 (linkB ((Below.refl _ w3).alloc (Nat.le_refl _) (.cells #[.int .i64 (verN t 0), .int .i64 (verN t 1), .int .i64 (verN t 2)] 62)) (linkB hb4 ((Below.refl _ w4).alloc (Nat.le_refl _) (.cells #[.int .i64 (verN t' 0), .int .i64 (verN t' 1), .int .i64 (verN t' 2)] 62)))))
          clear hs2 hs3 hs3b hb3 hb4 u0 u1 u2 u3 v0 v1 v2 v3 q2 hqx hqy
          generalize w4.alloc (.cells #[.int .i64 (verN t' 0), .int .i64 (verN t' 1), .int .i64 (verN t' 2)] 62) = wl at cX cY hbl ⊢
          generalize w3.heap.size = g1 at cX ⊢
          generalize w4.heap.size = g2 at cY ⊢
          have cXh := Lib.hid cX
          have cYh := Lib.hid cY
          clear cX cY
          go_wp2
          go_loopw [12] (fun i wr => ∃ m : Nat, m ≤ 3 ∧ i = .int .i64 m ∧ Hid (∀ j, j < m → verN t j = verN t' j) ∧ Below wl.heap.size wl wr) (fun i _ => 3 - (intOf i).toNat)
          case atStart => exact ⟨0, by omega, rfl, Lib.hid (fun j h => by omega), Below.refl _ _⟩
          case round =>
            obtain ⟨m, hm, rfl, hsame, hb5⟩ := hrel
            by_cases hlt : m < 3
            · have hlt' : (m : Int) < 3 := by omega
              have z1 := hb5.cell (p := ⟨g1, m, none⟩) (block_lt_of_cell (cXh.out m hlt))
              have z2 := hb5.cell (p := ⟨g2, m, none⟩) (block_lt_of_cell (cYh.out m hlt))
              rw [cXh.out m hlt] at z1
              rw [cYh.out m hlt] at z2
              have hbe := hbl.trans (hb5.mono hbl.size)
              by_cases heq : verN t m = verN t' m
              · have hs2 := Lib.hid (fun (j : Nat) (h : j < m + 1) => (show verN t j = verN t' j from if h2 : j < m then hsame.out j h2 else (by have e : j = m := (by omega); rw [e]; exact heq)))
                rw [heq] at z1
                replace heq := Lib.hid heq
                clear hsame
                go_upto_region 19 with (fail)
                go_region
                all_goals
                  go_wp2
                  refine ⟨⟨m + 1, by omega, by go_num, hs2, hb5.drew⟩, ?_⟩
                  simp [intOf]; omega
              · have hat := Lib.hid (verCmp_at t t' m hlt hsame.out heq)
                have hne : (verN t m != verN t' m) = true := by simp; exact heq
                clear hsame
                generalize verN t m = y1 at z1 heq hne hat
                generalize verN t' m = y2 at z2 heq hne hat
                go_upto_region 19 with (fail)
                go_region
                all_goals
                  go_upto_region 20 with (fail)
                  go_region_with (go_at_call 34; refine (sign_any _ _ _).mono ?_; rintro e w3 ⟨rfl, rfl⟩)
                  all_goals
                    go_wp2
                    go_ret2
                    exact ⟨by rw [← hr.out, hat.out]; rfl, hbe.drew.drew⟩
            · obtain rfl : m = 3 := by omega
              have hno := Lib.hid (verCmp_none t t' hsame.out)
              go_wp2
              go_ret2
              exact ⟨by rw [← hr.out, hno.out]; rfl, hbl.trans (hb5.mono hbl.size)⟩
    · rw [if_pos h2] at hr
      replace hr := Lib.hid hr
      clear kx ky
      go_enter Tryz.func17, Tryz.ntmps17
      go_upto_region 1 with (fail)
      generalize (w.alloc (.cells #[.int .i64 k, .int .i64 n, .string t, .slice a0 l.length ca] 29)).alloc (.cells #[.int .i64 k', .int .i64 n', .string t', .slice b0 l'.length cb] 29) = w0 at hs0 ⊢
      have p0 : w0.cell? ⟨w.heap.size, 0, none⟩ = some (.int .i64 k) := (by rw [Lib.cell_of_heap hs0.one]; rfl)
      have p1 : w0.cell? ⟨w.heap.size, 1, none⟩ = some (.int .i64 n) := (by rw [Lib.cell_of_heap hs0.one]; rfl)
      have p2 : w0.cell? ⟨w.heap.size, 2, none⟩ = some (.string t) := (by rw [Lib.cell_of_heap hs0.one]; rfl)
      have p3 : w0.cell? ⟨w.heap.size, 3, none⟩ = some (.slice a0 l.length ca) := (by rw [Lib.cell_of_heap hs0.one]; rfl)
      go_wp2_with (first | (go_at_call 20; go_fit (hcx.out _ hs0.below); rintro e w1 ⟨rfl, hb1⟩; have hs1 := hs0.grown hb1; have q0 : w1.cell? ⟨w.heap.size + 1, 0, none⟩ = some (.int .i64 k') := (by rw [Lib.cell_of_heap hs1.two]; rfl); have q1 : w1.cell? ⟨w.heap.size + 1, 1, none⟩ = some (.int .i64 n') := (by rw [Lib.cell_of_heap hs1.two]; rfl); have q2 : w1.cell? ⟨w.heap.size + 1, 2, none⟩ = some (.string t') := (by rw [Lib.cell_of_heap hs1.two]; rfl); have q3 : w1.cell? ⟨w.heap.size + 1, 3, none⟩ = some (.slice b0 l'.length cb) := (by rw [Lib.cell_of_heap hs1.two]; rfl)) | (go_at_call 20; go_fit (hcy.out _ hs1.below); rintro e w2 ⟨rfl, hb2⟩; have hs2 := hs1.grown hb2; have u0 : w2.cell? ⟨w.heap.size, 0, none⟩ = some (.int .i64 k) := (by rw [Lib.cell_of_heap hs2.one]; rfl); have u1 : w2.cell? ⟨w.heap.size, 1, none⟩ = some (.int .i64 n) := (by rw [Lib.cell_of_heap hs2.one]; rfl); have u2 : w2.cell? ⟨w.heap.size, 2, none⟩ = some (.string t) := (by rw [Lib.cell_of_heap hs2.one]; rfl); have u3 : w2.cell? ⟨w.heap.size, 3, none⟩ = some (.slice a0 l.length ca) := (by rw [Lib.cell_of_heap hs2.one]; rfl); have v0 : w2.cell? ⟨w.heap.size + 1, 0, none⟩ = some (.int .i64 k') := (by rw [Lib.cell_of_heap hs2.two]; rfl); have v1 : w2.cell? ⟨w.heap.size + 1, 1, none⟩ = some (.int .i64 n') := (by rw [Lib.cell_of_heap hs2.two]; rfl); have v2 : w2.cell? ⟨w.heap.size + 1, 2, none⟩ = some (.string t') := (by rw [Lib.cell_of_heap hs2.two]; rfl); have v3 : w2.cell? ⟨w.heap.size + 1, 3, none⟩ = some (.slice b0 l'.length cb) := (by rw [Lib.cell_of_heap hs2.two]; rfl)))
      go_ret2
      exact ⟨by rw [← hr.out]; rfl, hs2.below⟩
  · rw [if_pos h1] at hr
    replace hr := Lib.hid hr
    go_enter Tryz.func17, Tryz.ntmps17
    go_upto_region 1 with (fail)
    generalize (w.alloc (.cells #[.int .i64 k, .int .i64 n, .string t, .slice a0 l.length ca] 29)).alloc (.cells #[.int .i64 k', .int .i64 n', .string t', .slice b0 l'.length cb] 29) = w0 at hs0 ⊢
    have p0 : w0.cell? ⟨w.heap.size, 0, none⟩ = some (.int .i64 k) := by rw [Lib.cell_of_heap hs0.one]; rfl
    have p1 : w0.cell? ⟨w.heap.size, 1, none⟩ = some (.int .i64 n) := by rw [Lib.cell_of_heap hs0.one]; rfl
    have p2 : w0.cell? ⟨w.heap.size, 2, none⟩ = some (.string t) := by rw [Lib.cell_of_heap hs0.one]; rfl
    have p3 : w0.cell? ⟨w.heap.size, 3, none⟩ = some (.slice a0 l.length ca) := by rw [Lib.cell_of_heap hs0.one]; rfl
    go_wp2_with (go_at_call 20; refine (hcx.out _ hs0.below).mono ?_; rintro e w1 ⟨rfl, hb1⟩)
    go_ret2
    exact ⟨by rw [← hr.out]; rfl, (hs0.grown hb1).below⟩
end Go.Proofs.YtipncjbgippkcaaGreatDoor
