/- Rows of attributes and of contexts that a call owns: what lies in them, and 'append'. The draw's declared attributes, its keys; what a drawn context is. -/
import Derived.Test.YtcbnefeedoabeaaGreatDoorPa
import Derived.Test.YtcbnefeedoabeaaGreatDoorPd
import Derived.Deep.AppendLies
import Derived.Below
import Derived.Test.YtcbnefeedoabeaaGreatDoorPg
/- Rows of attributes and of contexts that a call owns: what lies in them, and 'append'. -/
namespace Go.Proofs.YtcbnefeedoabeaaGreatDoor
open Go Go.RowKit

/-- A kind of element: its cells, and what they point to. -/
structure Elt (α : Type) where
  T : TypeId
  S : TypeId
  k : Nat
  size : Nat
  zero : Value
  cells : α → List Value
  ok : (Nat → Prop) → α → World → Prop
  len : ∀ x, (cells x).length = k
  one : ∀ x, ∀ u ∈ cells x, u.oneCell' = true
  pos : 0 < k
  fit : size ≤ 1000
  under : Tryz.prog.underlying S = some (.slice T)
  info : (Tryz.prog.info? T).map (fun i => (i.zero, i.size, i.bytes)) = some (some zero, k, size)
  zlen : zero.cells.size = k
  same : ∀ {P : Nat → Prop} {x : α} {w w' : World}, ok P x w → SameB P w w' → ok P x w'
  mono : ∀ {P Q : Nat → Prop} {x : α} {w : World}, ok P x w → (∀ b, b < w.heap.size → P b → Q b) → ok Q x w
variable {α : Type}
def Elt.row (E : Elt α) (es : List α) : List Value := es.flatMap E.cells
theorem Elt.row_length (E : Elt α) (es : List α) : (E.row es).length = es.length * E.k := by
  induction es with
  | nil => simp [Elt.row]
  | cons e t ih =>
    show (E.cells e ++ E.row t).length = _
    rw [List.length_append, ih, List.length_cons, E.len, Nat.succ_mul]
    omega
theorem Elt.row_at (E : Elt α) : ∀ (es : List α) (i : Nat) (hi : i < es.length) (j : Nat), j < E.k → (E.row es)[i * E.k + j]? = (E.cells es[i])[j]?
  | e :: t, 0, _, j, hj => by
    show (E.cells e ++ E.row t)[0 * E.k + j]? = (E.cells e)[j]?
    rw [List.getElem?_append_left (by rw [E.len]; omega), Nat.zero_mul, Nat.zero_add]
  | e :: t, i + 1, hi, j, hj => by
    show (E.cells e ++ E.row t)[(i + 1) * E.k + j]? = _
    have hs : (i + 1) * E.k = i * E.k + E.k := Nat.succ_mul ..
    rw [List.getElem?_append_right (by rw [E.len, hs]; omega), E.len, show (i + 1) * E.k + j - E.k = i * E.k + j by omega]
    exact E.row_at t i (by simpa using hi) j hj
theorem Elt.row_one (E : Elt α) (es : List α) : ∀ u ∈ E.row es, u.oneCell' = true := by
  intro u hu
  obtain ⟨x, _, h⟩ := List.mem_flatMap.1 hu
  exact E.one x u h
/-- The slice v is the call's own and holds these elements; what they point to lies in other blocks of P. -/
structure GRow (E : Elt α) (P : Nat → Prop) (es : List α) (B : Nat) (v : Value) (w : World) : Prop where
  own : w.ownsRow B E.T E.k v es.length (E.row es)
  ok : ∀ e ∈ es, E.ok (fun b => P b ∧ v.ownBlock ≠ some b) e w
theorem GRow.nil (E : Elt α) (P : Nat → Prop) (B : Nat) (w : World) : GRow E P [] B (.slice none 0 0) w := ⟨World.ownsRow_nil w B _ _, fun e he => by simp at he⟩
theorem GRow.other {E : Elt α} {P : Nat → Prop} {es : List α} {B : Nat} {v : Value} {w w' : World} (h : GRow E P es B v w) (s : SameB (fun b => P b ∨ v.ownBlock = some b) w w') : GRow E P es B v w' := by
  refine ⟨⟨h.own.1, ?_⟩, fun e he => E.same (h.ok e he) (s.mono fun b hb => .inl hb.1)⟩
  rcases h.own.2 with h0 | ⟨g, cap, cur, hv, hB, hg, rest⟩
  · exact .inl h0
  · have hlt : g < w.heap.size := (Array.getElem?_eq_some_iff.1 hg).1
    exact .inr ⟨g, cap, cur, hv, hB, (s.2 g (.inr (by rw [hv]; rfl)) hlt).trans hg, rest⟩
theorem GRow.below {E : Elt α} {P : Nat → Prop} {es : List α} {B : Nat} {v : Value} {w w' : World} (h : GRow E P es B v w) (hb : Below w.heap.size w w') : GRow E P es B v w' := h.other (SameB.of_below hb)
theorem GRow.lt {E : Elt α} {P : Nat → Prop} {es : List α} {B : Nat} {v : Value} {w : World} (h : GRow E P es B v w) : ∀ k, v.ownBlock = some k → B ≤ k ∧ k < w.heap.size := World.ownsRow.lt h.own
theorem GRow.mono {E : Elt α} {P Q : Nat → Prop} {es : List α} {B : Nat} {v : Value} {w : World} (h : GRow E P es B v w) (hq : ∀ b, b < w.heap.size → P b → Q b) : GRow E Q es B v w :=
  ⟨h.own, fun e he => E.mono (h.ok e he) fun b hb hp => ⟨hq b hb hp.1, hp.2⟩⟩
theorem GRow.form {E : Elt α} {P : Nat → Prop} {es : List α} {B : Nat} {v : Value} {w : World} (h : GRow E P es B v w) : ∃ (a0 : Option Addr) (cap : Nat), v = .slice a0 es.length cap ∧ (a0 = none → cap = 0) ∧ es.length ≤ cap ∧ cap ≤ 9223372036854775807 ∧
    ∀ i (hi : i < es.length), ∃ g, a0 = some ⟨g, 0, none⟩ ∧ B ≤ g ∧ g < w.heap.size ∧ v.ownBlock = some g ∧ ∀ j, j < E.k → w.cell? ⟨g, i * E.k + j, none⟩ = (E.cells es[i])[j]? := by
  rcases h.own.2 with ⟨rfl, h0⟩ | ⟨g, cap, cur, rfl, hB, hg, hn, hc, hs, ht⟩
  · exact ⟨none, 0, by rw [h0], fun _ => rfl, by omega, by omega, fun i hi => by omega⟩
  · refine ⟨some ⟨g, 0, none⟩, cap, rfl, (fun h => by cases h), hn, by unfold maxLen at hc; omega, fun i hi => ⟨g, rfl, hB, (Array.getElem?_eq_some_iff.1 hg).1, rfl, fun j hj => ?_⟩⟩
    have h1 := E.row_at es i hi j hj
    have hlt : i * E.k + j < es.length * E.k := by
      have : (i + 1) * E.k ≤ es.length * E.k := Nat.mul_le_mul_right _ hi
      rw [Nat.succ_mul] at this
      omega
    rw [← ht, List.getElem?_take, if_pos hlt] at h1
    rw [Lib.cell_of_heap hg, ← Array.getElem?_toList]
    exact h1
theorem news_one (E : Elt α) (e : α) (W : World) : ∀ j u, (E.row [e])[j]? = some u → (W.alloc (.cells (E.cells e).toArray E.T)).cell? ((⟨W.heap.size, 0, none⟩ : Addr).add j) = some u := by
  intro j u hu
  refine World.news_of_block (heap_alloc_new W _) j u ?_
  simpa [Elt.row] using hu
/-- What 'append' leaves of a row. -/
theorem grown_row {E : Elt α} {P : Nat → Prop} {es fs : List α} {B g cap : Nat} {v : Value} {w w' : World} (hrow : GRow E P es B v w) (hf : ∀ e ∈ fs, E.ok (fun b => P b ∧ v.ownBlock ≠ some b) e w)
    (hown : w'.ownsRow B E.T E.k (.slice (some ⟨g, 0, none⟩) (es.length + fs.length) cap) (es.length + fs.length) (E.row es ++ E.row fs)) (hg : w.grownBy w' v.ownBlock) (hs : v.ownBlock = some g ∨ g = w.heap.size) :
    GRow E P (es ++ fs) B (.slice (some ⟨g, 0, none⟩) (es.length + fs.length) cap) w' := by
  refine ⟨?_, fun e he => ?_⟩
  · have hr : E.row (es ++ fs) = E.row es ++ E.row fs := by simp [Elt.row]
    rw [hr, List.length_append]
    exact hown
  · have h0 : E.ok (fun b => P b ∧ v.ownBlock ≠ some b) e w := by
      rcases List.mem_append.1 he with h | h
      · exact hrow.ok e h
      · exact hf e h
    have h1 : E.ok (fun b => (P b ∧ g ≠ b) ∧ v.ownBlock ≠ some b) e w := E.mono h0 fun b hb hp => ⟨⟨hp.1, fun e => by
      subst e
      rcases hs with h | h
      · exact hp.2 h
      · omega⟩, hp.2⟩
    have hsame : SameB (fun b => (P b ∧ g ≠ b) ∧ v.ownBlock ≠ some b) w w' := ⟨hg.size, fun b hb hlt => hg.block b hlt (fun e => hb.2 e.symm)⟩
    exact E.mono (E.same h1 hsame) fun b _ hp => ⟨hp.1.1, fun e => hp.1.2 (by injection e)⟩
theorem wp_grow (E : Elt α) {P : Nat → Prop} {o : Oper} {a : Act} {w : World} {K : Act → World → Prop} {Q : Exit → Act → World → Prop} (s x : Operand)
    (ho : o.op = .call { callee := .builtin .append, args := #[s, x], argTypes := #[E.S, E.S] }) {es : List α} {B : Nat} {v : Value} (hrow : GRow E P es B v w) (hs : a.eval s = v)
    (fs : List α) (ad : Addr) (m c : Nat) (hm : fs.length = m) (hx : a.eval x = .slice (some ad) m c) (hnews : ∀ j u, (E.row fs)[j]? = some u → w.cell? (ad.add j) = some u) (hf : ∀ e ∈ fs, E.ok (fun b => P b ∧ v.ownBlock ≠ some b) e w)
    (h0 : 0 < m) (hl : es.length + m ≤ 1000) (hB : B ≤ w.heap.size)
    (h : ∀ g cap w', GRow E P (es ++ fs) B (.slice (some ⟨g, 0, none⟩) (es.length + m) cap) w' → w.grownBy w' v.ownBlock → (v.ownBlock = some g ∨ g = w.heap.size) → Below B w w' → K (a.put o.dst (.slice (some ⟨g, 0, none⟩) (es.length + m) cap)) w') : o.wp Tryz.prog a w K Q := by
  subst hm
  obtain ⟨i0, hi, hz0, hz1, hz2⟩ := info_parts E.info
  have hfit := E.fit
  refine wp_append_lies w s x E.S ho B E.T i0 E.zero E.k E.size E.under hi hz0 hz1 hz2 E.zlen E.pos v es.length (E.row es) hs hrow.own ad fs.length c (E.row fs) hx (E.row_length fs) hnews (E.row_one fs) h0 (by unfold maxLen; omega) (by
    have : (es.length + fs.length) * E.size ≤ 1000 * 1000 := Nat.mul_le_mul hl hfit
    omega) hB w.heap.size rfl ?_
  intro g cap w' hown hg hlies hlt
  exact h g cap w' (grown_row hrow hf hown hg hlies) hg hlies ((Below.refl B w).grown hg hB (fun k hk => (hrow.lt k hk).1))
theorem wpList_grow (E : Elt α) {P : Nat → Prop} {ops : Array Oper} {rest : List Oper} {o : Oper} {a : Act} {w : World} {Q : Exit → Act → World → Prop} (hgd : o.guard = none) (s x : Operand)
    (ho : o.op = .call { callee := .builtin .append, args := #[s, x], argTypes := #[E.S, E.S] }) {es : List α} {B : Nat} {v : Value} (hrow : GRow E P es B v w) (hs : a.eval s = v)
    (fs : List α) (ad : Addr) (m c : Nat) (hm : fs.length = m) (hx : a.eval x = .slice (some ad) m c) (hnews : ∀ j u, (E.row fs)[j]? = some u → w.cell? (ad.add j) = some u) (hf : ∀ e ∈ fs, E.ok (fun b => P b ∧ v.ownBlock ≠ some b) e w)
    (h0 : 0 < m) (hl : es.length + m ≤ 1000) (hB : B ≤ w.heap.size)
    (h : ∀ g cap w', GRow E P (es ++ fs) B (.slice (some ⟨g, 0, none⟩) (es.length + m) cap) w' → w.grownBy w' v.ownBlock → (v.ownBlock = some g ∨ g = w.heap.size) → Below B w w' → wpList Tryz.prog ops Q rest (a.put o.dst (.slice (some ⟨g, 0, none⟩) (es.length + m) cap)) w') : wpList Tryz.prog ops Q (o :: rest) a w :=
  wpList_plain hgd fun _ hK => wp_grow E s x ho hrow hs fs ad m c hm hx hnews hf h0 hl hB fun g cap w' h2 h3 h4 h5 => hK _ _ (h g cap w' h2 h3 h4 h5)
theorem step_grow (E : Elt α) {P : Nat → Prop} {ops : Array Oper} {o : Oper} {a : Act} {w : World} {K : Act → World → Prop} {Q : Exit → Act → World → Prop} {X : Prop} (hgd : o.guard = none) (s x : Operand)
    (ho : o.op = .call { callee := .builtin .append, args := #[s, x], argTypes := #[E.S, E.S] }) {es : List α} {B : Nat} {v : Value} (hrow : GRow E P es B v w) (hs : a.eval s = v)
    (fs : List α) (ad : Addr) (m c : Nat) (hm : fs.length = m) (hx : a.eval x = .slice (some ad) m c) (hnews : ∀ j u, (E.row fs)[j]? = some u → w.cell? (ad.add j) = some u) (hf : ∀ e ∈ fs, E.ok (fun b => P b ∧ v.ownBlock ≠ some b) e w)
    (h0 : 0 < m) (hl : es.length + m ≤ 1000) (hB : B ≤ w.heap.size)
    (h : ∀ g cap w', GRow E P (es ++ fs) B (.slice (some ⟨g, 0, none⟩) (es.length + m) cap) w' → w.grownBy w' v.ownBlock → (v.ownBlock = some g ∨ g = w.heap.size) → Below B w w' → K (a.put o.dst (.slice (some ⟨g, 0, none⟩) (es.length + m) cap)) w') :
    if Region.wanted o (yielded ops a.tmps) = true then Oper.wp Tryz.prog o a w K Q else X := by
  have hw : Region.wanted o (yielded ops a.tmps) = true := by simp [Region.wanted, hgd]
  rw [if_pos hw]
  exact wp_grow E s x ho hrow hs fs ad m c hm hx hnews hf h0 hl hB h
theorem Elt.row_set (E : Elt α) (j : Nat) (u : Value) (e' : α) (hj : j < E.k) : ∀ (es : List α) (i : Nat) (hi : i < es.length), E.cells e' = (E.cells es[i]).set j u → E.row (es.set i e') = (E.row es).set (i * E.k + j) u
  | e :: t, 0, _, hc => by
    show E.cells e' ++ E.row t = (E.cells e ++ E.row t).set (0 * E.k + j) u
    rw [Nat.zero_mul, Nat.zero_add, List.set_append_left _ _ (by rw [E.len]; exact hj), hc]
    rfl
  | e :: t, i + 1, hi, hc => by
    have ih := E.row_set j u e' hj t i (by simpa using hi) (by simpa using hc)
    show E.cells e ++ E.row (t.set i e') = (E.cells e ++ E.row t).set ((i + 1) * E.k + j) u
    have hs : (i + 1) * E.k = i * E.k + E.k := Nat.succ_mul ..
    rw [List.set_append_right _ _ (by rw [E.len, hs]; omega), E.len, show (i + 1) * E.k + j - E.k = i * E.k + j by omega, ih]
/-- A store into a row of the call's own. -/
theorem GRow.put {E : Elt α} {P : Nat → Prop} {es : List α} {B g n cap : Nat} {w : World} (h : GRow E P es B (.slice (some ⟨g, 0, none⟩) n cap) w) (i : Nat) (hi : i < es.length) (j : Nat) (hj : j < E.k) (u : Value) (e' : α)
    (hc : E.cells e' = (E.cells es[i]).set j u) (hok : E.ok (fun b => P b ∧ g ≠ b) e' w) : GRow E P (es.set i e') B (.slice (some ⟨g, 0, none⟩) n cap) (w.setCell ⟨g, i * E.k + j, none⟩ u) := by
  have hob : ∀ b, (Value.slice (some ⟨g, 0, none⟩) n cap).ownBlock ≠ some b ↔ g ≠ b := fun b => by simp [Value.ownBlock]
  have hsame : ∀ {Q : Nat → Prop} {x : α}, E.ok (fun b => Q b ∧ g ≠ b) x w → E.ok (fun b => Q b ∧ g ≠ b) x (w.setCell ⟨g, i * E.k + j, none⟩ u) := fun hx => E.same hx ⟨by simp, fun b hb hl => by rw [Below.heap_setCell _ _ _ _ (fun (e : b = g) => hb.2 e.symm)]⟩
  refine ⟨?_, fun e he => ?_⟩
  · rcases h.own.2 with ⟨h0, _⟩ | ⟨g', cap', cur, hv, hB, hg, hn, hcm, hcs, ht⟩
    · cases h0
    · have hg' : g = g' := by injection hv with h1; injection h1 with h2; injection h2
      subst hg'
      have hlen : (es.set i e').length = es.length := List.length_set ..
      rw [hlen, E.row_set j u e' hj es i hi hc]
      refine ⟨by rw [List.length_set]; exact h.own.1, .inr ⟨g, cap', cur.setIfInBounds (i * E.k + j) u, hv, hB, ?_, hn, hcm, by rw [Array.size_setIfInBounds]; exact hcs, ?_⟩⟩
      · show (w.heap.modify g _)[g]? = _
        rw [Array.getElem?_modify, if_pos rfl, hg]
        rfl
      · rw [Array.toList_setIfInBounds, List.take_set, ht]
  · have hmem : e = e' ∨ e ∈ es := by
      rcases List.mem_or_eq_of_mem_set he with h1 | h1
      · exact .inr h1
      · exact .inl h1
    have h0 : E.ok (fun b => P b ∧ g ≠ b) e w := by
      rcases hmem with rfl | h1
      · exact hok
      · exact E.mono (h.ok e h1) fun b _ hb => ⟨hb.1, (hob b).1 hb.2⟩
    exact E.mono (hsame h0) fun b _ hb => ⟨hb.1, (hob b).2 hb.2⟩
/-- An attribute as it lies in memory. -/
structure AEl where
  a : Attr
  p : Option Addr
  c : Nat
def AEl.cells (e : AEl) : List Value := [.string e.a.name, .int .i64 e.a.val.kind, .int .i64 e.a.val.num, .string e.a.val.text, .slice e.p (e.a.val.list.length : Nat) e.c]
theorem infoAttr : (Tryz.prog.info? 72).map (fun i => (i.zero, i.size, i.bytes)) = some (some (.agg #[.string ⟨#[]⟩, .int .i64 0, .int .i64 0, .string ⟨#[]⟩, .slice none 0 0]), 5, 72) := by kernel_rfl
def eltA : Elt AEl where
  T := 72
  S := 61
  k := 5
  size := 72
  zero := .agg #[.string ⟨#[]⟩, .int .i64 0, .int .i64 0, .string ⟨#[]⟩, .slice none 0 0]
  cells := AEl.cells
  ok P e w := ListP P e.p e.c e.a.val.list w
  len _ := rfl
  one e u hu := by
    simp [AEl.cells] at hu
    rcases hu with rfl | rfl | rfl | rfl | rfl <;> rfl
  pos := by decide
  fit := by decide
  under := Tryz.underlying61
  info := infoAttr
  zlen := rfl
  same h s := ListP.same h s
  mono h s := ListP.mono h s
/-- A context as it lies in memory. -/
structure CEl where
  x : Ctx
  p : Option Addr
  c : Nat
def CEl.cells (e : CEl) : List Value := [.string e.x.kind, .string e.x.key, .slice e.p (e.x.attrs.length : Nat) e.c]
theorem infoCtx : (Tryz.prog.info? 63).map (fun i => (i.zero, i.size, i.bytes)) = some (some (.agg #[.string ⟨#[]⟩, .string ⟨#[]⟩, .slice none 0 0]), 3, 56) := by kernel_rfl
def eltC : Elt CEl where
  T := 63
  S := 23
  k := 3
  size := 56
  zero := .agg #[.string ⟨#[]⟩, .string ⟨#[]⟩, .slice none 0 0]
  cells := CEl.cells
  ok P e w := AttrsP P e.p e.c e.x.attrs w
  len _ := rfl
  one e u hu := by
    simp [CEl.cells] at hu
    rcases hu with rfl | rfl | rfl <;> rfl
  pos := by decide
  fit := by decide
  under := Tryz.underlying23
  info := infoCtx
  zlen := rfl
  same h s := AttrsP.same h s
  mono h s := AttrsP.mono h s
/-- A row of attributes, read as a slice of them. -/
theorem GRow.attrs {P : Nat → Prop} {es : List AEl} {B : Nat} {v : Value} {w : World} (h : GRow eltA P es B v w) : ∃ (a0 : Option Addr) (cap : Nat), v = .slice a0 (es.map AEl.a).length cap ∧ AttrsP (fun b => P b ∨ v.ownBlock = some b) a0 cap (es.map AEl.a) w := by
  obtain ⟨a0, cap, hv, h1, h2, _, h3⟩ := h.form
  refine ⟨a0, cap, by rw [hv, List.length_map], h1, by rw [List.length_map]; exact h2, fun i hi => ?_⟩
  have hi' : i < es.length := by simpa using hi
  obtain ⟨g, e1, _, e3, e4, hc⟩ := h3 i hi'
  have hok := h.ok _ (List.getElem_mem hi')
  rw [show (es.map AEl.a)[i] = es[i].a from by simp]
  refine ⟨g, 0, e1, .inr e4, e3, ?_⟩
  rw [Nat.zero_add]
  exact ⟨hc 0 (by decide), hc 1 (by decide), hc 2 (by decide), hc 3 (by decide), _, _, hc 4 (by decide), ListP.mono hok fun b _ hb => .inl hb.1⟩
theorem GRow.ctxs {P : Nat → Prop} {es : List CEl} {B : Nat} {v : Value} {w : World} (h : GRow eltC P es B v w) : ∃ (a0 : Option Addr) (cap : Nat), v = .slice a0 (es.map CEl.x).length cap ∧ CtxsP (fun b => P b ∨ v.ownBlock = some b) a0 cap (es.map CEl.x) w := by
  obtain ⟨a0, cap, hv, h1, h2, _, h3⟩ := h.form
  refine ⟨a0, cap, by rw [hv, List.length_map], h1, by rw [List.length_map]; exact h2, fun i hi => ?_⟩
  have hi' : i < es.length := by simpa using hi
  obtain ⟨g, e1, _, e3, e4, hc⟩ := h3 i hi'
  have hok := h.ok _ (List.getElem_mem hi')
  rw [show (es.map CEl.x)[i] = es[i].x from by simp]
  refine ⟨g, 0, e1, .inr e4, e3, ?_⟩
  rw [Nat.zero_add]
  exact ⟨hc 0 (by decide), hc 1 (by decide), _, _, hc 2 (by decide), AttrsP.mono hok fun b _ hb => .inl hb.1⟩
end Go.Proofs.YtcbnefeedoabeaaGreatDoor
/- The draw's declared attributes, its keys; what a drawn context is. -/
namespace Go.Proofs.YtcbnefeedoabeaaGreatDoor
open Go Go.RowKit

def devB : ByteArray := ⟨#[100, 101, 118, 105, 99, 101]⟩
def usrB : ByteArray := ⟨#[117, 115, 101, 114]⟩
/-- Kinds, names and types of the declared attributes. -/
def decls : List (ByteArray × ByteArray × Int) := [(devB, ⟨#[99, 111, 114, 101, 115]⟩, 2), (devB, ⟨#[111, 115]⟩, 3), (usrB, ⟨#[97, 103, 101]⟩, 2), (usrB, ⟨#[97, 112, 112]⟩, 4), (usrB, ⟨#[98, 101, 116, 97]⟩, 1), (usrB, ⟨#[99, 111, 117, 110, 116, 114, 121]⟩, 3), (usrB, ⟨#[112, 108, 97, 110]⟩, 3), (usrB, ⟨#[116, 97, 103, 115]⟩, 5)]
structure DeclAt (D : Nat) (w : World) : Prop where
  lt : D < w.heap.size
  c : ∀ i (h : i < decls.length), w.cell? ⟨D, i * 3, none⟩ = some (.string decls[i].1) ∧ w.cell? ⟨D, i * 3 + 1, none⟩ = some (.string decls[i].2.1) ∧ w.cell? ⟨D, i * 3 + 2, none⟩ = some (.int .i64 decls[i].2.2)
theorem DeclAt.block {D : Nat} {w w' : World} (h : DeclAt D w) (hs : w.heap.size ≤ w'.heap.size) (hb : w'.heap[D]? = w.heap[D]?) : DeclAt D w' :=
  ⟨Nat.lt_of_lt_of_le h.lt hs, fun i hi => by
    obtain ⟨h0, h1, h2⟩ := h.c i hi
    exact ⟨(World.cell?_of_block (w := w) hb).trans h0, (World.cell?_of_block (w := w) hb).trans h1, (World.cell?_of_block (w := w) hb).trans h2⟩⟩
theorem declared_any (w : World) : Calls Tryz.prog 21 #[] w fun e w' => e = .returned (.slice (some ⟨w.heap.size, 0, none⟩) 8 8) ∧ DeclAt w.heap.size w' ∧ Below w.heap.size w w' := by
  go_enter Tryz.func21, Tryz.ntmps21
  go_wp2
  go_ret
  refine ⟨rfl, ⟨by simp, fun i hi => ?_⟩, (Below.refl _ w).alloc (Nat.le_refl _) _⟩
  have hi8 : i < 8 := hi
  refine ⟨?_, ?_, ?_⟩
  all_goals
    rw [Lib.cell_of_heap (heap_alloc_new w _)]
    match i, hi8 with
    | 0, _ => rfl
    | 1, _ => rfl
    | 2, _ => rfl
    | 3, _ => rfl
    | 4, _ => rfl
    | 5, _ => rfl
    | 6, _ => rfl
    | 7, _ => rfl
    | i + 8, h => omega
def keyOf (d : Nat) : ByteArray := ⟨#[107, UInt8.ofNat (48 + d)]⟩
theorem keyOf_add (r : Int) (h0 : 0 ≤ r) (h1 : r < 10) : (⟨#[107]⟩ : ByteArray) ++ Utf8.encode (48 + r) = keyOf r.toNat := by
  rw [encode_low _ (by omega) (by omega)]
  have : (48 + r).toNat = 48 + r.toNat := by omega
  rw [this]
  rfl
set_option maxHeartbeats 4000000 in
theorem drawKey_any (l : List UInt8) (a0 : Option Addr) (cap C at_ : Nat) (w : World) (hl : l.length ≤ 1000000) (h : Codes l a0 cap C at_ w) :
    Calls Tryz.prog 68 #[.pointer (some ⟨C, 0, none⟩)] w fun e w' => (∃ d, d < 10 ∧ e = .returned (.string (keyOf d))) ∧ Kept C w w' ∧ ∃ at2, Codes l a0 cap C at2 w' := by
  have hn := next_any l a0 cap C at_ 10 w hl (by omega) (by omega) h
  have hr := nextN_lt l at_ 10 (by omega)
  obtain ⟨r, hr0, hr1, hr2⟩ : ∃ r : Int, ((nextN l at_ 10 : Nat) : Int) = r ∧ 0 ≤ r ∧ r < 10 := ⟨_, rfl, by omega, by omega⟩
  rw [hr0] at hn
  clear hr0 hr
  have hk := keyOf_add r hr1 hr2
  have hz : (Utf8.encode (48 + r)).size = 1 := by rw [encode_low _ (by omega) (by omega)]; rfl
  replace hn := Lib.hid hn
  go_enter Tryz.func68, Tryz.ntmps68
  go_wp2_with (go_at_call 15; refine hn.out.mono ?_; rintro e w1 ⟨rfl, hk1, hce⟩)
  go_ret
  exact ⟨⟨r.toNat, by omega, rfl⟩, hk1, hce⟩
/-- A drawn attribute. -/
structure DrawnA (a : Attr) : Prop where
  ok : checkE a.val = 0
  text : a.val.text.size ≤ 100
  len : a.val.list.length ≤ 20
  each : ∀ s ∈ a.val.list, s.size ≤ 100
theorem Drawn.attr {k : Int} {x : Val} (h : Drawn k x) (n : ByteArray) : DrawnA ⟨n, x⟩ := ⟨h.ok, h.text, h.len, h.each⟩
/-- The names of the first n declared attributes of a kind. -/
def namesTo (kd : ByteArray) (n : Nat) : List ByteArray := ((decls.take n).filter fun d => d.1.toList == kd.toList).map fun d => d.2.1
theorem namesTo_yes (kd : ByteArray) (n : Nat) (h : n < decls.length) (hk : (decls[n].1.toList == kd.toList) = true) : namesTo kd (n + 1) = namesTo kd n ++ [decls[n].2.1] := by
  unfold namesTo
  rw [List.take_succ_eq_append_getElem h, List.filter_append, List.map_append]
  simp [hk]
theorem namesTo_no (kd : ByteArray) (n : Nat) (h : n < decls.length) (hk : (decls[n].1.toList == kd.toList) = false) : namesTo kd (n + 1) = namesTo kd n := by
  unfold namesTo
  rw [List.take_succ_eq_append_getElem h, List.filter_append, List.map_append]
  simp [hk]
/-- A drawn context. -/
structure DrawnC (kd : ByteArray) (x : Ctx) : Prop where
  kind : x.kind = kd
  key : ∃ d, d < 10 ∧ x.key = keyOf d
  names : (x.attrs.map Attr.name).Sublist (namesTo kd 8)
  each : ∀ a ∈ x.attrs, DrawnA a
/-- A list of names that ascends, each of them an attribute's. -/
def ascN : List ByteArray → Bool
  | [] => true
  | n :: t => nameB n && t.all (fun m => !leqT m n) && ascN t
theorem ascN_sub : ∀ {l m : List ByteArray}, l.Sublist m → ascN m = true → ascN l = true
  | _, _, .slnil, _ => rfl
  | _, _, .cons a h, hm => by
    simp only [ascN, Bool.and_eq_true] at hm
    exact ascN_sub h hm.2
  | _, _, .cons_cons a h, hm => by
    simp only [ascN, Bool.and_eq_true] at hm ⊢
    refine ⟨⟨hm.1.1, ?_⟩, ascN_sub h hm.2⟩
    rw [List.all_eq_true] at hm ⊢
    exact fun x hx => hm.1.2 x (h.subset hx)
theorem attrsGo_asc : ∀ (l : List Attr) (b : ByteArray), ascN (l.map Attr.name) = true → (∀ a ∈ l, checkE a.val = 0) → (∀ a ∈ l, leqT a.name b = false) → attrsGo b l = 0
  | [], _, _, _, _ => rfl
  | a :: t, b, h, hc, hb => by
    simp only [List.map_cons, ascN, Bool.and_eq_true] at h
    rw [attrsGo, if_pos h.1.1, if_neg (by rw [hb a (by simp)]; simp), if_pos (hc a (by simp))]
    refine attrsGo_asc t a.name h.2 (fun x hx => hc x (by simp [hx])) fun x hx => ?_
    have := List.all_eq_true.1 h.1.2 x.name (List.mem_map_of_mem hx)
    simpa using this
theorem dev_asc : ascN (namesTo devB 8) = true := by decide +kernel
theorem usr_asc : ascN (namesTo usrB 8) = true := by decide +kernel
theorem asc_names {l : List ByteArray} (h : ascN l = true) : ∀ n ∈ l, nameB n = true := by
  induction l with
  | nil => intro n hn; simp at hn
  | cons a t ih =>
    simp only [ascN, Bool.and_eq_true] at h
    intro n hn
    rcases List.mem_cons.1 hn with rfl | hn
    · exact h.1.1
    · exact ih h.2 n hn
theorem DrawnC.asc {kd : ByteArray} {x : Ctx} (h : DrawnC kd x) (hk : kd = devB ∨ kd = usrB) : ascN (x.attrs.map Attr.name) = true := by
  rcases hk with rfl | rfl
  · exact ascN_sub h.names dev_asc
  · exact ascN_sub h.names usr_asc
theorem DrawnC.len {kd : ByteArray} {x : Ctx} (h : DrawnC kd x) (hk : kd = devB ∨ kd = usrB) : x.attrs.length ≤ 8 := by
  have h1 := h.names.length_le
  rw [List.length_map] at h1
  have h2 : (namesTo kd 8).length ≤ 8 := by rcases hk with rfl | rfl <;> decide +kernel
  omega
theorem DrawnC.attrsE {kd : ByteArray} {x : Ctx} (h : DrawnC kd x) (hk : kd = devB ∨ kd = usrB) : attrsE x.attrs = 0 := by
  have hl := h.len hk
  have ha := h.asc hk
  unfold Proofs.YtcbnefeedoabeaaGreatDoor.attrsE
  rw [if_neg (by omega)]
  refine attrsGo_asc _ _ ha (fun a hm => (h.each a hm).ok) fun a hm => not_leqT_empty _ ?_
  exact (nameB_size (asc_names ha a.name (List.mem_map_of_mem hm))).1
theorem keyOf_ok : ∀ d, d < 10 → (keyOf d).size = 2 ∧ validB (keyOf d) = true := by
  intro d hd
  have : ∀ d : Fin 10, (keyOf d.1).size = 2 ∧ validB (keyOf d.1) = true := by decide +kernel
  exact this ⟨d, hd⟩
theorem dev_key : keyB words devB = true := by decide +kernel
theorem usr_key : keyB words usrB = true := by decide +kernel
theorem DrawnC.ctxE {kd b : ByteArray} {x : Ctx} (h : DrawnC kd x) (hk : kd = devB ∨ kd = usrB) (hb : leqT kd b = false) : ctxE b x = 0 := by
  have h1 : keyB words x.kind = true := by rw [h.kind]; rcases hk with rfl | rfl; exact dev_key; exact usr_key
  obtain ⟨d, hd, e⟩ := h.key
  have h2 := keyOf_ok d hd
  unfold Proofs.YtcbnefeedoabeaaGreatDoor.ctxE
  rw [if_pos h1, if_neg (by rw [h.kind, hb]; simp), if_neg (by rw [e, h2.1, h2.2]; simp), h.attrsE hk]
theorem DrawnC.fit {kd : ByteArray} {x : Ctx} (h : DrawnC kd x) (hk : kd = devB ∨ kd = usrB) : FitC x := by
  obtain ⟨d, hd, e⟩ := h.key
  have h2 := keyOf_ok d hd
  have hl := h.len hk
  have ha := h.asc hk
  refine ⟨?_, by rw [e, h2.1]; omega, by omega, fun a hm => ?_⟩
  · rw [h.kind]; rcases hk with rfl | rfl <;> decide
  · obtain ⟨_, h3, h4, h5⟩ := h.each a hm
    have := (nameB_size (asc_names ha a.name (List.mem_map_of_mem hm))).2
    exact ⟨by omega, by omega, by omega, fun s hs => by have := h5 s hs; omega⟩
/-- A drawn subject: a device, a user, both or none. -/
def DrawnS (l : List Ctx) : Prop := l = [] ∨ (∃ d, l = [d] ∧ DrawnC devB d) ∨ (∃ u, l = [u] ∧ DrawnC usrB u) ∨ ∃ d u, l = [d, u] ∧ DrawnC devB d ∧ DrawnC usrB u
theorem DrawnS.len {l : List Ctx} (h : DrawnS l) : l.length ≤ 2 := by
  rcases h with rfl | ⟨d, rfl, _⟩ | ⟨u, rfl, _⟩ | ⟨d, u, rfl, _⟩ <;> simp
theorem DrawnS.each {l : List Ctx} (h : DrawnS l) : ∀ x ∈ l, ∃ kd, (kd = devB ∨ kd = usrB) ∧ DrawnC kd x := by
  intro x hx
  rcases h with rfl | ⟨d, rfl, h1⟩ | ⟨u, rfl, h1⟩ | ⟨d, u, rfl, h1, h2⟩
  · simp at hx
  · obtain rfl := List.mem_singleton.1 hx; exact ⟨_, .inl rfl, h1⟩
  · obtain rfl := List.mem_singleton.1 hx; exact ⟨_, .inr rfl, h1⟩
  · rcases List.mem_cons.1 hx with rfl | hx
    · exact ⟨_, .inl rfl, h1⟩
    · obtain rfl := List.mem_singleton.1 hx; exact ⟨_, .inr rfl, h2⟩
theorem DrawnS.fit {l : List Ctx} (h : DrawnS l) : ∀ x ∈ l, FitC x := fun x hx => by
  obtain ⟨kd, hk, hd⟩ := h.each x hx
  exact hd.fit hk
theorem DrawnS.ok {l : List Ctx} (h : DrawnS l) : subjE l = 0 := by
  have e1 : leqT devB ByteArray.empty = false := by decide +kernel
  have e2 : leqT usrB ByteArray.empty = false := by decide +kernel
  have e3 : leqT usrB devB = false := by decide +kernel
  have hl := h.len
  unfold subjE
  rw [if_neg (by omega)]
  rcases h with rfl | ⟨d, rfl, h1⟩ | ⟨u, rfl, h1⟩ | ⟨d, u, rfl, h1, h2⟩
  · rfl
  · rw [subjGo, if_pos (h1.ctxE (.inl rfl) e1)]; rfl
  · rw [subjGo, if_pos (h1.ctxE (.inr rfl) e2)]; rfl
  · rw [subjGo, if_pos (h1.ctxE (.inl rfl) e1), subjGo, h1.kind, if_pos (h2.ctxE (.inr rfl) e3)]; rfl
end Go.Proofs.YtcbnefeedoabeaaGreatDoor
