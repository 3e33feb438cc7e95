/- What the law's spoil holds while it changes one thing of a subject. The law's spoil: what it changes keeps the shape of a subject. The changed subject, where a drawn one is changed. -/
import Derived.Test.YtcbnefeedoabeaaGreatDoorPl
import Derived.Test.YtcbnefeedoabeaaGreatDoorPi
import Derived.Test.YtcbnefeedoabeaaGreatDoorPg
import Derived.Deep.RegionHeld3
import Derived.OrdersHeld
import Derived.Deep.DrawnRows
import Derived.Test.YtcbnefeedoabeaaGreatDoorPm
/- What the law's spoil holds while it changes one thing of a subject. -/
namespace Go.Proofs.YtcbnefeedoabeaaGreatDoor
open Go Go.RowKit

/-- A context is fit and has few attributes. -/
structure SmallC (x : Ctx) : Prop where
  fit : FitC x
  few : x.attrs.length ≤ 25
/-- What spoil has beside the row of contexts. -/
structure SpBase (R C : Nat) (l : List UInt8) (a0 : Option Addr) (cap : Nat) (w wr : World) : Prop where
  codes : ∃ at2, Codes l a0 cap C at2 wr
  draw : DrawG C wr
  kept : Kept C w wr
  res : wr.heap[R]? = some (.cells #[.slice none 0 0] 25 (0, 0))
theorem SpBase.step {R C : Nat} {l : List UInt8} {a0 : Option Addr} {cap : Nat} {w wr w' : World} (h : SpBase R C l a0 cap w wr) (hk : Kept C wr w') (hc : ∃ at2, Codes l a0 cap C at2 w') (hR : R ≠ C) : SpBase R C l a0 cap w w' :=
  ⟨hc, h.draw.kept hk, h.kept.trans hk, (hk.block R (Array.getElem?_eq_some_iff.1 h.res).1 hR).trans h.res⟩
/-- Only what came later than block N may have turned. -/
theorem SpBase.low {R C N at_ : Nat} {l : List UInt8} {a0 : Option Addr} {cap : Nat} {w wr w' : World} (h : SpBase R C l a0 cap w wr) (h0 : Codes l a0 cap C at_ w) (hG : DrawG C w) (hb : Below N wr w') (hN : w.heap.size ≤ N) (hR : R < N) : SpBase R C l a0 cap w w' := by
  obtain ⟨at2, hc⟩ := h.codes
  have hk : Kept C w w' := h.kept.then_low hb hN
  exact ⟨⟨at2, h0.low hc hb hN⟩, hG.kept hk, hk, (hb.block R hR).trans h.res⟩
theorem SpBase.set {R C X at_ : Nat} {l : List UInt8} {a0 : Option Addr} {cap : Nat} {w wr : World} (h : SpBase R C l a0 cap w wr) (h0 : Codes l a0 cap C at_ w) (hG : DrawG C w) (hX : w.heap.size ≤ X) (hR : R ≠ X) (i : Nat) (v : Value) : SpBase R C l a0 cap w (wr.setCell ⟨X, i, none⟩ v) := by
  obtain ⟨at2, hc⟩ := h.codes
  have hk := h.kept.other' hX i v
  exact ⟨⟨at2, h0.other hc hX i v⟩, hG.kept hk, hk, by rw [Below.heap_setCell _ _ _ _ hR]; exact h.res⟩
/-- The row of contexts, of which number k has a row of attributes of its own, from block N on. -/
structure SpK (P : Nat → Prop) (B N g k n cv : Nat) (es : List CEl) (fa : List AEl) (va : Value) (wr : World) : Prop where
  own : wr.ownsRow B 63 3 (.slice (some ⟨g, 0, none⟩) n cv) es.length (eltC.row es)
  kl : k < es.length
  oth : ∀ j (hj : j < es.length), j ≠ k → AttrsP (fun b => (P b ∨ B ≤ b) ∧ g ≠ b ∧ b < N) es[j].p es[j].c es[j].x.attrs wr
  att : GRow eltA (fun b => (P b ∨ B ≤ b) ∧ g ≠ b) fa N va wr
  hdr : va = .slice es[k].p fa.length es[k].c
  eq : es[k].x.attrs = fa.map AEl.a
  gN : g < N
  BN : B ≤ N
theorem SpK.gB {P : Nat → Prop} {B N g k n cv : Nat} {es : List CEl} {fa : List AEl} {va : Value} {wr : World} (h : SpK P B N g k n cv es fa va wr) : B ≤ g ∧ g < wr.heap.size := World.ownsRow.lt h.own g rfl
/-- Blocks below N, and those of the row of attributes, stand as they stood. -/
theorem SpK.other {P : Nat → Prop} {B N g k n cv : Nat} {es : List CEl} {fa : List AEl} {va : Value} {w w' : World} (h : SpK P B N g k n cv es fa va w) (hs : SameB (fun b => (P b ∨ B ≤ b) ∨ va.ownBlock = some b) w w') : SpK P B N g k n cv es fa va w' := by
  have hg := h.gB
  refine ⟨⟨h.own.1, ?_⟩, h.kl, fun j hj hjk => (h.oth j hj hjk).same (hs.mono fun b hb => .inl hb.1), h.att.other (hs.mono fun b hb => ?_), h.hdr, h.eq, h.gN, h.BN⟩
  · rcases h.own.2 with h0 | ⟨g', cap, cur, hv, hB, hgg, rest⟩
    · exact .inl h0
    · have hlt : g' < w.heap.size := (Array.getElem?_eq_some_iff.1 hgg).1
      exact .inr ⟨g', cap, cur, hv, hB, (hs.2 g' (.inl (.inr hB)) hlt).trans hgg, rest⟩
  · rcases hb with hb | hb
    · exact .inl hb.1
    · exact .inr hb
theorem SpK.kept {P : Nat → Prop} {B N g k n cv C : Nat} {es : List CEl} {fa : List AEl} {va : Value} {w w' : World} (h : SpK P B N g k n cv es fa va w) (hk : Kept C w w') (hP : ∀ b, P b → b ≠ C) (hC : C < B) : SpK P B N g k n cv es fa va w' :=
  h.other (SameB.of_kept hk fun b hb => by
    rcases hb with (hb | hb) | hb
    · exact hP b hb
    · omega
    · have := (h.att.lt b hb).1
      have := h.BN
      omega)
theorem SpK.below {P : Nat → Prop} {B N g k n cv : Nat} {es : List CEl} {fa : List AEl} {va : Value} {w w' : World} (h : SpK P B N g k n cv es fa va w) (hb : Below w.heap.size w w') : SpK P B N g k n cv es fa va w' := h.other (SameB.of_below hb)
theorem own_free {B n cv g T k m : Nat} {xs : List Value} {w : World} (h : w.ownsRow B T k (.slice (some ⟨g, 0, none⟩) n cv) m xs) (i : Nat) : w.frozen? ⟨g, i, none⟩ = false := by
  rcases h.2 with ⟨h0, _⟩ | ⟨g', cap', cur, hv, hB, hg, _⟩
  · cases h0
  · have hg' : g = g' := by injection hv with h1; injection h1 with h2; injection h2
    subst hg'
    exact Lib.frozen_of_heap hg i
theorem own_put {α : Type} {E : Elt α} {es : List α} {B g n cv : Nat} {w : World} (h : w.ownsRow B E.T E.k (.slice (some ⟨g, 0, none⟩) n cv) es.length (E.row es)) (i : Nat) (hi : i < es.length) (j : Nat) (hj : j < E.k) (u : Value) (e' : α) (hc : E.cells e' = (E.cells es[i]).set j u) :
    (w.setCell ⟨g, i * E.k + j, none⟩ u).ownsRow B E.T E.k (.slice (some ⟨g, 0, none⟩) n cv) (es.set i e').length (E.row (es.set i e')) := by
  rcases h.2 with ⟨h0, _⟩ | ⟨g', cap', cur, hv, hB, hg, hn, hcm, hcs, ht⟩
  · cases h0
  · have hg' : g = g' := by injection hv with h1; injection h1 with h2; injection h2
    subst hg'
    have hlen : (es.set i e').length = es.length := List.length_set ..
    rw [hlen, E.row_set j u e' hj es i hi hc]
    refine ⟨by rw [List.length_set]; exact h.1, .inr ⟨g, cap', cur.setIfInBounds (i * E.k + j) u, hv, hB, ?_, hn, hcm, by rw [Array.size_setIfInBounds]; exact hcs, ?_⟩⟩
    · show (w.heap.modify g _)[g]? = _
      rw [Array.getElem?_modify, if_pos rfl, hg]
      rfl
    · rw [Array.toList_setIfInBounds, List.take_set, ht]
theorem own_cell {α : Type} {E : Elt α} {es : List α} {B g n cv : Nat} {w : World} (h : w.ownsRow B E.T E.k (.slice (some ⟨g, 0, none⟩) n cv) es.length (E.row es)) (i : Nat) (hi : i < es.length) (j : Nat) (hj : j < E.k) : w.cell? ⟨g, i * E.k + j, none⟩ = (E.cells es[i])[j]? := by
  rcases h.2 with ⟨h0, _⟩ | ⟨g', cap', cur, hv, hB, hg, hn, hcm, hcs, ht⟩
  · cases h0
  · have hg' : g = g' := by injection hv with h1; injection h1 with h2; injection h2
    subst hg'
    have h1 := E.row_at es i hi j hj
    have hlt : i * E.k + j < es.length * E.k := by
      have : (i + 1) * E.k ≤ es.length * E.k := Nat.mul_le_mul_right _ hi
      rw [Nat.succ_mul] at this
      omega
    rw [← ht, List.getElem?_take, if_pos hlt] at h1
    rw [Lib.cell_of_heap hg, ← Array.getElem?_toList]
    exact h1
/-- A store into the row of contexts; the row of attributes may be another one behind it. -/
theorem SpK.put {P : Nat → Prop} {B N g k n cv : Nat} {es : List CEl} {fa fa' : List AEl} {va va' : Value} {wr : World} (h : SpK P B N g k n cv es fa va wr) (j : Nat) (hj : j < 3) (u : Value) (e' : CEl)
    (hc : CEl.cells e' = (CEl.cells (es[k]'h.kl)).set j u) (hatt : GRow eltA (fun b => (P b ∨ B ≤ b) ∧ g ≠ b) fa' N va' wr) (hh : va' = .slice e'.p fa'.length e'.c) (he : e'.x.attrs = fa'.map AEl.a) :
    SpK P B N g k n cv (es.set k e') fa' va' (wr.setCell ⟨g, k * 3 + j, none⟩ u) := by
  have hgN := h.gN
  have hkl := h.kl
  have hown := own_put (E := eltC) h.own k h.kl j hj u e' hc
  refine ⟨hown, by rw [List.length_set]; exact h.kl, fun i hi hik => ?_, hatt.other ((SameB.refl _ wr).set (fun hb => ?_) _ _), ?_, ?_, h.gN, h.BN⟩
  · have hi' : i < es.length := by rw [List.length_set] at hi; exact hi
    rw [show (es.set k e')[i] = es[i] from by rw [List.getElem_set]; exact if_neg (by omega)]
    exact (h.oth i hi' hik).same ((SameB.refl _ wr).set (fun hb => hb.2.1 rfl) _ _)
  · rcases hb with hb | hb
    · exact hb.2 rfl
    · have := (hatt.lt g hb).1; omega
  · rw [show (es.set k e')[k]'(by rw [List.length_set]; exact h.kl) = e' from by simp]
    exact hh
  · rw [show (es.set k e')[k]'(by rw [List.length_set]; exact h.kl) = e' from by simp]
    exact he
/-- The row of contexts whole. -/
theorem SpK.row {P : Nat → Prop} {B N g k n cv : Nat} {es : List CEl} {fa : List AEl} {va : Value} {wr : World} (h : SpK P B N g k n cv es fa va wr) : GRow eltC (fun b => P b ∨ B ≤ b) es B (.slice (some ⟨g, 0, none⟩) n cv) wr := by
  refine ⟨h.own, fun e he => ?_⟩
  have hob : ∀ b, g ≠ b → (Value.slice (some ⟨g, 0, none⟩) n cv).ownBlock ≠ some b := fun b hb e => hb (by injection e)
  obtain ⟨j, hj, rfl⟩ := List.getElem_of_mem he
  by_cases hjk : j = k
  · subst hjk
    obtain ⟨pa, ca, hv, hat⟩ := h.att.attrs
    have h1 := h.hdr
    rw [h1] at hv
    injection hv with e1 e2 e3
    show AttrsP _ es[j].p es[j].c es[j].x.attrs wr
    rw [h.eq, e1, e3]
    refine hat.mono fun b _ hb => ?_
    rcases hb with hb | hb
    · exact ⟨hb.1, hob b hb.2⟩
    · have h2 := (h.att.lt b hb).1
      have h3 := h.gN
      have h4 := h.BN
      exact ⟨.inr (by omega), hob b (by omega)⟩
  · exact (h.oth j hj hjk).mono fun b _ hb => ⟨hb.1, hob b hb.2.1⟩
/-- Number k of a row gets a row of attributes of its own. -/
theorem SpK.start {P : Nat → Prop} {B g k n cv : Nat} {es : List CEl} {fa : List AEl} {va : Value} {p : Option Addr} {c : Nat} {w1 w2 : World} (h : GRow eltC P es B (.slice (some ⟨g, 0, none⟩) n cv) w1) (hk : k < es.length) (hb : Below w1.heap.size w1 w2)
    (hatt : GRow eltA (fun b => (P b ∨ B ≤ b) ∧ g ≠ b) fa w1.heap.size va w2) (hv : va = .slice p fa.length c) (he : es[k].x.attrs = fa.map AEl.a) :
    SpK P B w1.heap.size g k n cv (es.set k ⟨es[k].x, p, c⟩) fa va (w2.setCell ⟨g, k * 3 + 2, none⟩ va) := by
  have hgl := h.lt g rfl
  have h2 := h.below hb
  have hcell : CEl.cells ⟨es[k].x, p, c⟩ = (CEl.cells es[k]).set 2 va := by
    rw [hv]
    simp [CEl.cells, he]
  have hown := own_put (E := eltC) h2.own k hk 2 (by decide) va ⟨es[k].x, p, c⟩ hcell
  refine ⟨hown, by rw [List.length_set]; exact hk, fun i hi hik => ?_, hatt.other ((SameB.refl _ w2).set (fun hbb => ?_) _ _), ?_, ?_, hgl.2, Nat.le_trans hgl.1 (Nat.le_of_lt hgl.2)⟩
  · have hi' : i < es.length := by rw [List.length_set] at hi; exact hi
    rw [show (es.set k ⟨es[k].x, p, c⟩)[i] = es[i] from by rw [List.getElem_set]; exact if_neg (by omega)]
    have h3 : AttrsP (fun b => P b ∧ (Value.slice (some ⟨g, 0, none⟩) n cv).ownBlock ≠ some b) es[i].p es[i].c es[i].x.attrs w1 := h.ok es[i] (List.getElem_mem hi')
    have h4 : AttrsP (fun b => (P b ∨ B ≤ b) ∧ g ≠ b ∧ b < w1.heap.size) es[i].p es[i].c es[i].x.attrs w1 := h3.mono fun b hbl hp => ⟨.inl hp.1, fun e => hp.2 (by rw [← e]; rfl), hbl⟩
    exact (h4.same (SameB.of_below hb)).same ((SameB.refl _ w2).set (fun hbb => hbb.2.1 rfl) _ _)
  · rcases hbb with hbb | hbb
    · exact hbb.2 rfl
    · have := (hatt.lt g hbb).1; omega
  · rw [show (es.set k ⟨es[k].x, p, c⟩)[k]'(by rw [List.length_set]; exact hk) = ⟨es[k].x, p, c⟩ from by simp]
    exact hv
  · rw [show (es.set k ⟨es[k].x, p, c⟩)[k]'(by rw [List.length_set]; exact hk) = ⟨es[k].x, p, c⟩ from by simp]
    exact he
theorem small_set {es : List CEl} {k : Nat} {e : CEl} (h : ∀ x ∈ es, SmallC x.x) (he : SmallC e.x) : ∀ x ∈ es.set k e, SmallC x.x := fun x hx => by
  rcases List.mem_or_eq_of_mem_set hx with h1 | rfl
  · exact h x h1
  · exact he
/-- A row that is not empty lies in a block of its own. -/
theorem GRow.addr {α : Type} {E : Elt α} {P : Nat → Prop} {es : List α} {B : Nat} {v : Value} {w : World} (h : GRow E P es B v w) (hn : 0 < es.length) : ∃ g cap : Nat, v = .slice (some ⟨g, 0, none⟩) es.length cap := by
  obtain ⟨a, c, hv, _, _, _, h5⟩ := h.form
  obtain ⟨g, e1, _⟩ := h5 0 hn
  exact ⟨g, c, by rw [hv, e1]⟩
end Go.Proofs.YtcbnefeedoabeaaGreatDoor
/- The law's spoil: what it changes keeps the shape of a subject. -/
namespace Go.Proofs.YtcbnefeedoabeaaGreatDoor
open Go Go.RowKit

attribute [local go_sem ↓] Go.wp_at_zero Go.wp_at_succ
theorem GRow.lower {α : Type} {E : Elt α} {P : Nat → Prop} {es : List α} {B B' : Nat} {v : Value} {w : World} (h : GRow E P es B v w) (hB : B' ≤ B) : GRow E P es B' v w := by
  refine ⟨⟨h.own.1, ?_⟩, h.ok⟩
  rcases h.own.2 with h1 | ⟨g, cp, cur, hv, hb, rest⟩
  · exact .inl h1
  · exact .inr ⟨g, cp, cur, hv, Nat.le_trans hB hb, rest⟩
/-- What a spoilt subject is. -/
def Spoilt (P : Nat → Prop) (l : List UInt8) (a0 : Option Addr) (cap C : Nat) (w : World) (e : Ending) (w' : World) : Prop :=
  (∃ (es : List CEl) (v : Value), e = .returned (.agg #[v]) ∧ GRow eltC (fun b => P b ∨ w.heap.size ≤ b) es w.heap.size v w' ∧ es.length ≤ 8 ∧ ∀ x ∈ es, SmallC x.x) ∧ Kept C w w' ∧ ∃ at2, Codes l a0 cap C at2 w'
theorem spoil_end {P : Nat → Prop} {R C at_ B : Nat} {l : List UInt8} {a0 : Option Addr} {cap : Nat} {w wr : World} {es : List CEl} {v : Value} (h0 : Codes l a0 cap C at_ w) (hP : ∀ b, P b → b < w.heap.size ∧ b ≠ C)
    (hb : SpBase R C l a0 cap w wr) (hR : w.heap.size ≤ R) (hRB : R < B) (hrow : GRow eltC (fun b => P b ∨ B ≤ b) es B v wr) (hn : es.length ≤ 8) (hs : ∀ x ∈ es, SmallC x.x) : Spoilt P l a0 cap C w (.returned (.agg #[v])) (wr.setCell ⟨R, 0, none⟩ v) := by
  obtain ⟨at2, hc⟩ := hb.codes
  have hrow' := (hrow.set (X := R) hRB (fun b hb => by
    rcases hb with hb | hb
    · have := (hP b hb).1; omega
    · omega) 0 v).lower (B' := w.heap.size) (by omega)
  exact ⟨⟨es, v, rfl, hrow'.mono fun b _ hb => by
    rcases hb with hb | hb
    · exact .inl hb
    · exact .inr (by omega), hn, hs⟩, hb.kept.other' hR 0 v, at2, h0.other hc hR 0 v⟩
/-- A row just made. -/
theorem row_new {α : Type} (E : Elt α) {P : Nat → Prop} (fs : List α) (B : Nat) (w : World) (hB : B ≤ w.heap.size) (hl : fs.length ≤ 1000) (hf : ∀ e ∈ fs, E.ok P e w) :
    GRow E P fs B (.slice (some ⟨w.heap.size, 0, none⟩) fs.length fs.length) (w.alloc (.cells (E.row fs).toArray E.T)) := by
  have hal := (Below.refl w.heap.size w).alloc (Nat.le_refl _) (.cells (E.row fs).toArray E.T)
  refine ⟨⟨E.row_length fs, .inr ⟨w.heap.size, fs.length, (E.row fs).toArray, rfl, hB, heap_alloc_new w _, Nat.le_refl _, by unfold maxLen; omega, by simpa using E.row_length fs, ?_⟩⟩, fun e he => ?_⟩
  · rw [List.take_of_length_le (Nat.le_of_eq (E.row_length fs))]
  · have h1 : E.ok (fun b => P b ∧ b < w.heap.size) e w := E.mono (hf e he) fun b hb hp => ⟨hp, hb⟩
    refine E.mono (E.same h1 (SameB.of_below hal)) fun b _ hb => ⟨hb.1, fun e => ?_⟩
    have : w.heap.size = b := by injection e
    omega
theorem drawText_small {s : ByteArray} (h : s ∈ drawTexts) : s.size ≤ 100 := by
  have h1 := List.all_eq_true.1 texts_ok s h
  simp only [Bool.and_eq_true, decide_eq_true_eq] at h1
  exact h1.2
theorem news_row {α : Type} (E : Elt α) (fs : List α) (W : World) : ∀ j u, (E.row fs)[j]? = some u → (W.alloc (.cells (E.row fs).toArray E.T)).cell? ((⟨W.heap.size, 0, none⟩ : Addr).add j) = some u := by
  intro j u hu
  rw [WideShapes.add_plain, Nat.zero_add, Lib.cell_of_heap (heap_alloc_new W _)]
  simpa using hu
/-- The three contexts that spoil adds. -/
def threeC : List CEl := [⟨⟨⟨#[118, 97]⟩, ⟨#[97]⟩, []⟩, none, 0⟩, ⟨⟨⟨#[118, 98]⟩, ⟨#[98]⟩, []⟩, none, 0⟩, ⟨⟨⟨#[118, 99]⟩, ⟨#[99]⟩, []⟩, none, 0⟩]
theorem three_ok {e : CEl} {P : Nat → Prop} {w : World} (h : e ∈ threeC) : eltC.ok P e w := by
  unfold threeC at h
  simp only [List.mem_cons, List.not_mem_nil, or_false] at h
  rcases h with rfl | rfl | rfl <;> exact ⟨fun _ => rfl, Nat.zero_le _, fun i hi => by simp at hi⟩
theorem three_small : ∀ e ∈ threeC, SmallC e.x := by
  intro e h
  unfold threeC at h
  simp only [List.mem_cons, List.not_mem_nil, or_false] at h
  rcases h with rfl | rfl | rfl <;> exact ⟨⟨by show (2 : Nat) ≤ _; omega, by show (1 : Nat) ≤ _; omega, by simp, fun a ha => by simp at ha⟩, by simp⟩
/-- A whole context is stored. -/
theorem GRow.put3 {P : Nat → Prop} {es : List CEl} {B g n cap : Nat} {w : World} (h : GRow eltC P es B (.slice (some ⟨g, 0, none⟩) n cap) w) (i : Nat) (hi : i < es.length) (e' : CEl) (hok : AttrsP (fun b => P b ∧ g ≠ b) e'.p e'.c e'.x.attrs w) :
    GRow eltC P (es.set i e') B (.slice (some ⟨g, 0, none⟩) n cap) (((w.setCell ⟨g, i * 3, none⟩ (.string e'.x.kind)).setCell ⟨g, i * 3 + 1, none⟩ (.string e'.x.key)).setCell ⟨g, i * 3 + 2, none⟩ (.slice e'.p (e'.x.attrs.length : Nat) e'.c)) := by
  have hob : ∀ b, (Value.slice (some ⟨g, 0, none⟩) n cap).ownBlock ≠ some b → g ≠ b := fun b hb e => hb (by rw [← e]; rfl)
  have hok0 : AttrsP (fun b => P b ∧ g ≠ b) es[i].p es[i].c es[i].x.attrs w := AttrsP.mono (h.ok es[i] (List.getElem_mem hi)) fun b _ hb => ⟨hb.1, hob b hb.2⟩
  have s1 : SameB (fun b => P b ∧ g ≠ b) w (w.setCell ⟨g, i * 3, none⟩ (.string e'.x.kind)) := (SameB.refl _ w).set (fun hb => hb.2 rfl) _ _
  have s2 := s1.set (B := g) (fun hb => hb.2 rfl) (i * 3 + 1) (.string e'.x.key)
  have h1 := GRow.put h i hi 0 (by decide) (.string e'.x.kind) ⟨⟨e'.x.kind, es[i].x.key, es[i].x.attrs⟩, es[i].p, es[i].c⟩ rfl hok0
  have h2 := GRow.put h1 i (by rw [List.length_set]; exact hi) 1 (by decide) (.string e'.x.key) ⟨⟨e'.x.kind, e'.x.key, es[i].x.attrs⟩, es[i].p, es[i].c⟩ (by rw [List.getElem_set_self]; rfl) (hok0.same s1)
  have h3 := GRow.put h2 i (by rw [List.length_set, List.length_set]; exact hi) 2 (by decide) (.slice e'.p (e'.x.attrs.length : Nat) e'.c) e' (by rw [List.getElem_set_self]; rfl) (hok.same s2)
  rw [List.set_set, List.set_set] at h3
  exact h3
theorem GRow.okC {P : Nat → Prop} {es : List CEl} {B g n cap : Nat} {w : World} (h : GRow eltC P es B (.slice (some ⟨g, 0, none⟩) n cap) w) (e : CEl) (he : e ∈ es) : AttrsP (fun b => P b ∧ g ≠ b) e.p e.c e.x.attrs w :=
  AttrsP.mono (h.ok e he) fun b _ hb => ⟨hb.1, fun e => hb.2 (by rw [← e]; rfl)⟩
/-- A whole value is stored into an attribute. -/
theorem GRow.put4 {P : Nat → Prop} {es : List AEl} {B g n cap : Nat} {w : World} (h : GRow eltA P es B (.slice (some ⟨g, 0, none⟩) n cap) w) (i : Nat) (hi : i < es.length) (q z : Int) :
    GRow eltA P (es.set i ⟨⟨es[i].a.name, ⟨q, z, ⟨#[]⟩, []⟩⟩, none, 0⟩) B (.slice (some ⟨g, 0, none⟩) n cap) ((((w.setCell ⟨g, i * 5 + 1, none⟩ (.int .i64 q)).setCell ⟨g, i * 5 + 2, none⟩ (.int .i64 z)).setCell ⟨g, i * 5 + 3, none⟩ (.string ⟨#[]⟩)).setCell ⟨g, i * 5 + 4, none⟩ (.slice none 0 0)) := by
  have hob : ∀ b, (Value.slice (some ⟨g, 0, none⟩) n cap).ownBlock ≠ some b → g ≠ b := fun b hb e => hb (by rw [← e]; rfl)
  have hok0 : ListP (fun b => P b ∧ g ≠ b) es[i].p es[i].c es[i].a.val.list w := ListP.mono (h.ok es[i] (List.getElem_mem hi)) fun b _ hb => ⟨hb.1, hob b hb.2⟩
  have s1 : SameB (fun b => P b ∧ g ≠ b) w (w.setCell ⟨g, i * 5 + 1, none⟩ (.int .i64 q)) := (SameB.refl _ w).set (fun hb => hb.2 rfl) _ _
  have s2 := s1.set (B := g) (fun hb => hb.2 rfl) (i * 5 + 2) (.int .i64 z)
  have s3 := s2.set (B := g) (fun hb => hb.2 rfl) (i * 5 + 3) (.string ⟨#[]⟩)
  have h1 := GRow.put h i hi 1 (by decide) (.int .i64 q) ⟨⟨es[i].a.name, ⟨q, es[i].a.val.num, es[i].a.val.text, es[i].a.val.list⟩⟩, es[i].p, es[i].c⟩ rfl hok0
  have h2 := GRow.put h1 i (by rw [List.length_set]; exact hi) 2 (by decide) (.int .i64 z) ⟨⟨es[i].a.name, ⟨q, z, es[i].a.val.text, es[i].a.val.list⟩⟩, es[i].p, es[i].c⟩ (by rw [List.getElem_set_self]; rfl) (hok0.same s1)
  have h3 := GRow.put h2 i (by rw [List.length_set, List.length_set]; exact hi) 3 (by decide) (.string ⟨#[]⟩) ⟨⟨es[i].a.name, ⟨q, z, ⟨#[]⟩, es[i].a.val.list⟩⟩, es[i].p, es[i].c⟩ (by rw [List.getElem_set_self]; rfl) (hok0.same s2)
  have h4 := GRow.put h3 i (by rw [List.length_set, List.length_set, List.length_set]; exact hi) 4 (by decide) (.slice none 0 0) ⟨⟨es[i].a.name, ⟨q, z, ⟨#[]⟩, []⟩⟩, none, 0⟩ (by rw [List.getElem_set_self]; rfl) ⟨fun _ => rfl, Nat.zero_le _, fun i hi => by simp at hi⟩
  rw [List.set_set, List.set_set, List.set_set] at h4
  exact h4
theorem att_cells {P : Nat → Prop} {fa : List AEl} {N ga n ca : Nat} {w : World} (h : GRow eltA P fa N (.slice (some ⟨ga, 0, none⟩) n ca) w) (hf : 0 < fa.length) :
    w.cell? ⟨ga, 1, none⟩ = some (.int .i64 fa[0].a.val.kind) ∧ w.cell? ⟨ga, 2, none⟩ = some (.int .i64 fa[0].a.val.num) ∧ w.cell? ⟨ga, 3, none⟩ = some (.string fa[0].a.val.text) ∧ w.cell? ⟨ga, 4, none⟩ = some (.slice fa[0].p (fa[0].a.val.list.length : Nat) fa[0].c) ∧ ∀ i, w.frozen? ⟨ga, i, none⟩ = false :=
  ⟨own_cell (E := eltA) h.own 0 hf 1 (by decide), own_cell (E := eltA) h.own 0 hf 2 (by decide), own_cell (E := eltA) h.own 0 hf 3 (by decide), own_cell (E := eltA) h.own 0 hf 4 (by decide), own_free h.own⟩
theorem small_add {x : Ctx} {fa : List AEl} {e : AEl} (h : SmallC x) (he : x.attrs = fa.map AEl.a) (hl : fa.length ≤ 24) (ha : FitA e.a) : SmallC ⟨x.kind, x.key, (fa ++ [e]).map AEl.a⟩ := by
  have hl2 : ((fa ++ [e]).map AEl.a).length = fa.length + 1 := by simp
  refine ⟨⟨h.fit.kind, h.fit.key, by rw [hl2]; omega, fun a hm => ?_⟩, by rw [hl2]; omega⟩
  obtain ⟨e1, he1, rfl⟩ := List.mem_map.1 hm
  rcases List.mem_append.1 he1 with h1 | h1
  · exact h.fit.each _ (by rw [he]; exact List.mem_map_of_mem h1)
  · obtain rfl := List.mem_singleton.1 h1; exact ha
theorem drawn_fit {k : Int} {x : Val} (h : Drawn k x) (nm : ByteArray) (hn : nm.size ≤ 100) : FitA ⟨nm, x⟩ :=
  ⟨by show nm.size ≤ _; omega, by have := h.text; show x.text.size ≤ _; omega, by have := h.len; show x.list.length ≤ _; omega, fun s hs => by have := h.each s hs; omega⟩
theorem small_att {x : Ctx} {fa : List AEl} (h : SmallC x) (he : x.attrs = fa.map AEl.a) (hf : 0 < fa.length) (q z : Int) : SmallC ⟨x.kind, x.key, (fa.set 0 ⟨⟨fa[0].a.name, ⟨q, z, ⟨#[]⟩, []⟩⟩, none, 0⟩).map AEl.a⟩ := by
  have hl : ((fa.set 0 ⟨⟨fa[0].a.name, ⟨q, z, ⟨#[]⟩, []⟩⟩, none, 0⟩).map AEl.a).length = x.attrs.length := by rw [he, List.length_map, List.length_map, List.length_set]
  have hfit : FitA fa[0].a := h.fit.each _ (by rw [he]; exact List.mem_map_of_mem (List.getElem_mem hf))
  refine ⟨⟨h.fit.kind, h.fit.key, by rw [hl]; exact h.fit.attrs, fun a ha => ?_⟩, by rw [hl]; exact h.few⟩
  obtain ⟨e, he1, rfl⟩ := List.mem_map.1 ha
  rcases List.mem_or_eq_of_mem_set he1 with h1 | rfl
  · exact h.fit.each _ (by rw [he]; exact List.mem_map_of_mem h1)
  · exact ⟨hfit.name, by show (0 : Nat) ≤ _; omega, by simp, fun s hs => by simp at hs⟩
/-- A store into the row of contexts behind a step that turned nothing below the row of attributes. -/
theorem SpK.put2 {P : Nat → Prop} {B N g k n cv : Nat} {es : List CEl} {fa fa' : List AEl} {va va' : Value} {w wr : World} (h : SpK P B N g k n cv es fa va w) (hb : SameB (fun b => b < N) w wr) (j : Nat) (hj : j < 3) (u : Value) (e' : CEl)
    (hc : CEl.cells e' = (CEl.cells (es[k]'h.kl)).set j u) (hatt : GRow eltA (fun b => (P b ∨ B ≤ b) ∧ g ≠ b) fa' N va' wr) (hh : va' = .slice e'.p fa'.length e'.c) (he : e'.x.attrs = fa'.map AEl.a) :
    SpK P B N g k n cv (es.set k e') fa' va' (wr.setCell ⟨g, k * 3 + j, none⟩ u) := by
  have hgN := h.gN
  have hkl := h.kl
  have hown0 : wr.ownsRow B 63 3 (.slice (some ⟨g, 0, none⟩) n cv) es.length (eltC.row es) := by
    refine ⟨h.own.1, ?_⟩
    rcases h.own.2 with h0 | ⟨g', cp, cur, hv, hB, hgg, rest⟩
    · exact .inl h0
    · have hlt : g' < w.heap.size := (Array.getElem?_eq_some_iff.1 hgg).1
      have hg' : g = g' := by injection hv with h1; injection h1 with h2; injection h2
      exact .inr ⟨g', cp, cur, hv, hB, (hb.2 g' (by omega) hlt).trans hgg, rest⟩
  have hown := own_put (E := eltC) hown0 k h.kl j hj u e' hc
  refine ⟨hown, by rw [List.length_set]; exact h.kl, fun i hi hik => ?_, hatt.other ((SameB.refl _ wr).set (fun hb => ?_) _ _), ?_, ?_, h.gN, h.BN⟩
  · have hi' : i < es.length := by rw [List.length_set] at hi; exact hi
    rw [show (es.set k e')[i] = es[i] from by rw [List.getElem_set]; exact if_neg (by omega)]
    exact ((h.oth i hi' hik).same (hb.mono fun b hb => hb.2.2)).same ((SameB.refl _ wr).set (fun hb => hb.2.1 rfl) _ _)
  · rcases hb with hb | hb
    · exact hb.2 rfl
    · have := (hatt.lt g hb).1; omega
  · rw [show (es.set k e')[k]'(by rw [List.length_set]; exact h.kl) = e' from by simp]
    exact hh
  · rw [show (es.set k e')[k]'(by rw [List.length_set]; exact h.kl) = e' from by simp]
    exact he
theorem SpK.cell {P : Nat → Prop} {B N g k n cv : Nat} {es : List CEl} {fa : List AEl} {va : Value} {w : World} (h : SpK P B N g k n cv es fa va w) :
    w.cell? ⟨g, k * 3, none⟩ = some (.string (es[k]'h.kl).x.kind) ∧ w.cell? ⟨g, k * 3 + 1, none⟩ = some (.string (es[k]'h.kl).x.key) ∧ w.cell? ⟨g, k * 3 + 2, none⟩ = some va ∧ ∀ i, w.frozen? ⟨g, i, none⟩ = false := by
  refine ⟨own_cell (E := eltC) h.own k h.kl 0 (by decide), own_cell (E := eltC) h.own k h.kl 1 (by decide), ?_, own_free h.own⟩
  rw [h.hdr]
  have h1 := own_cell (E := eltC) h.own k h.kl 2 (by decide)
  refine h1.trans ?_
  show some (Value.slice (es[k]'h.kl).p ((es[k]'h.kl).x.attrs.length : Nat) (es[k]'h.kl).c) = _
  rw [h.eq, List.length_map]
/-- The row of attributes turned, its length did not. -/
theorem SpK.attset {P : Nat → Prop} {B N g k n cv ga : Nat} {es : List CEl} {fa fa' : List AEl} {va : Value} {w w' : World} (h : SpK P B N g k n cv es fa va w) (hs : SameB (fun b => b ≠ ga) w w') (hga : N ≤ ga) (hl : fa'.length = fa.length)
    (hatt : GRow eltA (fun b => (P b ∨ B ≤ b) ∧ g ≠ b) fa' N va w') : SpK P B N g k n cv (es.set k ⟨⟨(es[k]'h.kl).x.kind, (es[k]'h.kl).x.key, fa'.map AEl.a⟩, (es[k]'h.kl).p, (es[k]'h.kl).c⟩) fa' va w' := by
  have hgN := h.gN
  have hkl := h.kl
  have hrow : eltC.row (es.set k ⟨⟨es[k].x.kind, es[k].x.key, fa'.map AEl.a⟩, es[k].p, es[k].c⟩) = eltC.row es := by
    have h2 : (CEl.cells ⟨⟨es[k].x.kind, es[k].x.key, fa'.map AEl.a⟩, es[k].p, es[k].c⟩) = (CEl.cells es[k]).set 0 (.string es[k].x.kind) := by
      simp [CEl.cells, h.eq, hl]
    rw [eltC.row_set 0 (.string es[k].x.kind) _ (by decide) es k hkl h2]
    have h3 := eltC.row_at es k hkl 0 (by decide)
    have h4 : k * 3 + 0 < (eltC.row es).length := by rw [eltC.row_length]; show k * 3 + 0 < es.length * 3; omega
    have h5 : (eltC.row es)[k * 3 + 0] = .string es[k].x.kind := by
      have h6 : (eltC.row es)[k * 3 + 0]? = some (.string es[k].x.kind) := h3
      rw [List.getElem?_eq_getElem h4] at h6
      injection h6
    show (eltC.row es).set (k * 3 + 0) (.string es[k].x.kind) = eltC.row es
    rw [← h5, List.set_getElem_self]
  have hown : w'.ownsRow B 63 3 (.slice (some ⟨g, 0, none⟩) n cv) es.length (eltC.row es) := by
    refine ⟨h.own.1, ?_⟩
    rcases h.own.2 with h0 | ⟨g', cp, cur, hv, hB, hgg, rest⟩
    · exact .inl h0
    · have hlt : g' < w.heap.size := (Array.getElem?_eq_some_iff.1 hgg).1
      have hg' : g = g' := by injection hv with h1; injection h1 with h2; injection h2
      exact .inr ⟨g', cp, cur, hv, hB, (hs.2 g' (by omega) hlt).trans hgg, rest⟩
  refine ⟨by rw [List.length_set, hrow]; exact hown, by rw [List.length_set]; exact hkl, fun i hi hik => ?_, hatt, ?_, ?_, h.gN, h.BN⟩
  · have hi' : i < es.length := by rw [List.length_set] at hi; exact hi
    rw [show (es.set k ⟨⟨es[k].x.kind, es[k].x.key, fa'.map AEl.a⟩, es[k].p, es[k].c⟩)[i] = es[i] from by rw [List.getElem_set]; exact if_neg (by omega)]
    exact (h.oth i hi' hik).same (hs.mono fun b hb => by have := hb.2.2; omega)
  · simp only [List.getElem_set_self]
    rw [hl]
    exact h.hdr
  · simp only [List.getElem_set_self]
/-- One attribute more. -/
theorem SpK.next {P : Nat → Prop} {B N g k n cv g9 c9 : Nat} {es : List CEl} {fa : List AEl} {va : Value} {e : AEl} {w8 w9 : World} (h : SpK P B N g k n cv es fa va w8) (hb : Below N w8 w9)
    (hrow : GRow eltA (fun b => (P b ∨ B ≤ b) ∧ g ≠ b) (fa ++ [e]) N (.slice (some ⟨g9, 0, none⟩) (fa.length + 1) c9) w9) :
    SpK P B N g k n cv (es.set k ⟨⟨(es[k]'h.kl).x.kind, (es[k]'h.kl).x.key, (fa ++ [e]).map AEl.a⟩, some ⟨g9, 0, none⟩, c9⟩) (fa ++ [e]) (.slice (some ⟨g9, 0, none⟩) (fa.length + 1) c9) (w9.setCell ⟨g, k * 3 + 2, none⟩ (.slice (some ⟨g9, 0, none⟩) (fa.length + 1) c9)) :=
  h.put2 ⟨hb.size, fun b hb1 _ => hb.block b hb1⟩ 2 (by decide) _ _ (by simp [CEl.cells]) hrow (by simp) rfl
theorem SpK.lowcell {P : Nat → Prop} {B N g k n cv : Nat} {es : List CEl} {fa : List AEl} {va : Value} {w w' : World} (h : SpK P B N g k n cv es fa va w) (hb : Below N w w') : w'.cell? ⟨g, k * 3 + 2, none⟩ = some va ∧ ∀ i, w'.frozen? ⟨g, i, none⟩ = false := by
  have h1 := hb.block g h.gN
  refine ⟨(World.cell?_of_block (w := w) (a := ⟨g, k * 3 + 2, none⟩) h1).trans h.cell.2.2.1, fun i => ?_⟩
  rcases h.own.2 with ⟨h0, _⟩ | ⟨g', cap', cur, hv, hB, hg, _⟩
  · cases h0
  · have hg' : g = g' := by injection hv with h1; injection h1 with h2; injection h2
    subst hg'
    exact Lib.frozen_of_heap (h1.trans hg) i
/-- What the loop over the new attributes holds. -/
structure Looped (P : Nat → Prop) (B N g k n cv R C : Nat) (l : List UInt8) (a0 : Option Addr) (cap : Nat) (w : World) (m : Nat) (es : List CEl) (fa : List AEl) (va : Value) (wr : World) : Prop where
  row : SpK P B N g k n cv es fa va wr
  base : SpBase R C l a0 cap w wr
  len : fa.length = m
  num : es.length = n
  small : ∀ x ∈ es, SmallC x.x
  low : N ≤ wr.heap.size
set_option linter.unusedSimpArgs false in
set_option linter.unusedVariables false in
set_option maxHeartbeats 16000000 in
set_option maxRecDepth 100000 in
theorem spoil_any {P : Nat → Prop} (p : Option Addr) (c : Nat) (L : List Ctx) (l : List UInt8) (a0 : Option Addr) (cap C at_ : Nat) (w : World) (hl : l.length ≤ 1000000) (h : Codes l a0 cap C at_ w) (hG : DrawG C w)
    (hP : ∀ b, P b → b < w.heap.size ∧ b ≠ C) (hL : CtxsP P p c L w) (hn : L.length ≤ 2) (hsm : ∀ x ∈ L, FitC x ∧ x.attrs.length ≤ 20) :
    Calls Tryz.prog 11 #[.agg #[.slice p (L.length : Nat) c], .pointer (some ⟨C, 0, none⟩)] w (Spoilt P l a0 cap C w) := by
  obtain ⟨fs, rfl, hels⟩ := hL.els
  rw [List.length_map] at hn ⊢
  have hbA := (Below.refl w.heap.size w).alloc (Nat.le_refl _) (.cells #[.slice p (fs.length : Nat) c] 25)
  have hbB := hbA.alloc hbA.size (.cells #[.slice none 0 0] 25)
  have hCw := h.lt
  have hsz : ((w.alloc (.cells #[.slice p (fs.length : Nat) c] 25)).alloc (.cells #[.slice none 0 0] 25)).heap.size = w.heap.size + 2 := by simp
  have hels1 := hels.same (SameB.of_below hbB)
  have hle : fs.length ≤ 1000 := by omega
  have hzR : ((w.alloc (.cells #[.slice p (fs.length : Nat) c] 25)).alloc (.cells #[.slice none 0 0] 25)).heap[w.heap.size + 1]? = some (.cells #[.slice none 0 0] 25 (0, 0)) := by
    have := heap_alloc_new (w.alloc (.cells #[.slice p (fs.length : Nat) c] 25)) (.cells #[.slice none 0 0] 25)
    simpa using this
  have hkB : Kept C w ((w.alloc (.cells #[.slice p (fs.length : Nat) c] 25)).alloc (.cells #[.slice none 0 0] 25)) := Kept.of_below hbB
  have hc1 := h.below hbB
  go_enter Tryz.func11, Tryz.ntmps11
  go_upto_region 2 with (refine wpList_copy eltC rfl (.const (.slice none 0 0)) (.tmp 9) rfl rfl (p := p) (c := c) (fs := fs) rfl hels1 hle ?_; intro v1 w2 hrow2 hb2)
  rw [hsz] at hrow2 hb2
  have hbase : SpBase (w.heap.size + 1) C l a0 cap w w2 := ⟨⟨_, hc1.below (by rw [hsz]; exact hb2)⟩, hG.kept (hkB.trans (Kept.of_below (by rw [hsz]; exact hb2))), hkB.trans (Kept.of_below (by rw [hsz]; exact hb2)), (hb2.block _ (by omega)).trans hzR⟩
  have hb2s := hb2.size
  rw [hsz] at hb2s
  clear hc1 hkB hzR hels1 hels hbB hbA hb2 hL
  have hsz2 : w.heap.size + 2 ≤ w2.heap.size := hb2s
  have hRC : w.heap.size + 1 ≠ C := by omega
  rcases Nat.eq_zero_or_pos fs.length with h0 | h0
  · obtain rfl := List.eq_nil_of_length_eq_zero h0
    obtain ⟨a1, c1, rfl, _, _, _, _⟩ := hrow2.form
    obtain ⟨atn, hcn⟩ := hbase.codes
    have hnm := Lib.hid (name_any l a0 cap C atn w2 hl hcn)
    clear hrow2 hcn
    go_upto_region 3 with (fail)
    go_wp2_with (first
      | (go_at_call 31; refine hnm.out.mono ?_; rintro e w3 ⟨⟨nm, hnm1, rfl⟩, hk3, at3, hc3⟩; have htx := Lib.hid (text_any l a0 cap C at3 w3 hl hc3 (hbase.draw.kept hk3)))
      | (go_at_call 32; refine htx.out.mono ?_; rintro e w4 ⟨⟨tx, htx1, rfl⟩, hk4, hce4⟩; have hb4 := hbase.step (hk3.trans hk4) hce4 hRC; have z4 : ∀ o, (w4.alloc o).frozen? ⟨w.heap.size + 1, 0, none⟩ = false := fun o => Lib.frozen_of_heap (((Below.refl w4.heap.size w4).alloc (Nat.le_refl _) o).block _ (Array.getElem?_eq_some_iff.1 hb4.res).1 |>.trans hb4.res) 0; have u4 : ∀ o, (w4.alloc o).cell? ⟨w.heap.size + 1, 0, none⟩ = some (.slice none 0 0) := fun o => (by rw [Lib.cell_of_heap (((Below.refl w4.heap.size w4).alloc (Nat.le_refl _) o).block _ (Array.getElem?_eq_some_iff.1 hb4.res).1 |>.trans hb4.res)]; rfl)))
    have hal := (Below.refl w4.heap.size w4).alloc (Nat.le_refl _) (.cells #[.string nm, .string tx, .slice none 0 0] 63)
    have hs4 : w.heap.size + 2 ≤ w4.heap.size := Nat.le_trans hsz2 (Nat.le_trans hk3.size hk4.size)
    obtain ⟨at4, hc4⟩ := hce4
    have hsn := names_small nm hnm1
    have hst := drawText_small htx1
    refine bodyPost_ret (v := .agg #[.slice (some ⟨w4.heap.size, 0, none⟩) 1 1]) (by simp [results, Tryz.results11, go_sem, u4]) rfl
      (spoil_end (es := [⟨⟨nm, tx, []⟩, none, 0⟩]) (B := w.heap.size + 2) h hP (hb4.step (Kept.of_below hal) ⟨_, hc4.below hal⟩ hRC) (by omega) (by omega) (row_new eltC [⟨⟨nm, tx, []⟩, none, 0⟩] _ w4 hs4 (by simp) (fun e he => by
        obtain rfl := List.mem_singleton.1 he
        exact ⟨fun _ => rfl, Nat.zero_le _, fun i hi => by simp at hi⟩)) (by simp) (fun x hx => by
        obtain rfl := List.mem_singleton.1 hx
        exact ⟨⟨by show nm.size ≤ _; omega, by show tx.size ≤ _; omega, by simp, fun a ha => by simp at ha⟩, by simp⟩))
  · obtain ⟨g, cv, rfl⟩ := hrow2.addr h0
    obtain ⟨atn, hcn⟩ := hbase.codes
    have hnx := Lib.hid (next_any l a0 cap C atn fs.length w2 hl h0 (by omega) hcn)
    have hkl := nextN_lt l atn fs.length h0
    generalize nextN l atn fs.length = k at hnx hkl
    clear hcn
    have h0I : ¬ (fs.length : Int) = 0 := by omega
    go_upto_region 5 with (go_at_call 15; refine hnx.out.mono ?_; rintro e w3 ⟨rfl, hk3, hce3⟩)
    have hrow3 := hrow2.kept hk3 (by omega) (fun b hb => (hP b hb).2)
    have hb3 := hbase.step hk3 hce3 hRC
    clear hnx hbase hrow2 hce3
    obtain ⟨hg1, hg2⟩ := hrow3.lt g rfl
    have k2 : w3.cell? ⟨g, k * 3 + 2, none⟩ = some (.slice fs[k].p (fs[k].x.attrs.length : Nat) fs[k].c) := own_cell hrow3.own k hkl 2 (by decide)
    obtain ⟨fa, hfa, hea⟩ := AttrsP.els (hrow3.ok fs[k] (List.getElem_mem hkl))
    have hla : fs[k].x.attrs.length = fa.length := by rw [← hfa, List.length_map]
    have hfa20 : fa.length ≤ 20 := by have := (hsm fs[k].x (List.mem_map_of_mem (List.getElem_mem hkl))).2; omega
    rw [hla] at k2
    obtain ⟨pk, hpk⟩ : ∃ pk, fs[k].p = pk := ⟨_, rfl⟩
    obtain ⟨ck, hck⟩ : ∃ ck, fs[k].c = ck := ⟨_, rfl⟩
    rw [hpk, hck] at k2 hea
    have zf3 : ∀ i, w3.frozen? ⟨g, i, none⟩ = false := own_free hrow3.own
    have hkI : (k : Int) < (fs.length : Int) := by omega
    have h0I' : (0 : Int) ≤ (k : Int) := by omega
    have hg3 : g < w3.heap.size := hg2
    have hle3 : fa.length ≤ 1000 := by omega
    obtain ⟨hfaH, hlaH⟩ := (⟨Lib.hid hfa, Lib.hid hla⟩ : Hid _ ∧ Hid _)
    clear hfa hla hpk hck
    go_upto_region 6 with (refine wpList_copy eltA rfl (.const (.slice none 0 0)) (.tmp 31) rfl rfl (p := pk) (c := ck) (fs := fa) rfl hea hle3 ?_; intro va w4 hrow4 hb4; obtain ⟨pa, ca, rfl, _⟩ := hrow4.form; have zf4 : ∀ i, w4.frozen? ⟨g, i, none⟩ = false := own_free (hrow3.below hb4).own; have k4 := (hb4.cell (p := ⟨g, k * 3 + 2, none⟩) hg3).trans k2)
    have hSK := SpK.start (B := w.heap.size + 2) hrow3 hkl hb4 (hrow4.mono fun b _ hb => ⟨.inl hb.1, fun e => hb.2 (by rw [← e]; rfl)⟩) rfl hfaH.out.symm
    have hB4 := hb3.step (Kept.of_below hb4) (by obtain ⟨at4, hc4⟩ := hb3.codes; exact ⟨_, hc4.below hb4⟩) hRC
    have hB5 := hB4.set h hG (X := g) (by omega) (by omega) (k * 3 + 2) (.slice pa fa.length ca)
    have hsE : ∀ x ∈ fs, SmallC x.x := fun x hx => by
      obtain ⟨h1, h2⟩ := hsm x.x (List.mem_map_of_mem hx)
      exact ⟨h1, by omega⟩
    have hsE' := small_set (k := k) (e := ⟨fs[k].x, pa, ca⟩) hsE (hsE fs[k] (List.getElem_mem hkl))
    have hel : (fs.set k ⟨fs[k].x, pa, ca⟩).length = fs.length := List.length_set ..
    have hb4s := hb4.size
    clear k4 zf4 hrow4 hB4 hb4 hlaH hfaH k2 zf3 hea hb3 hrow3 hk3 hsE hsm hle3 h0I hle hg3
    have hN5 : w3.heap.size ≤ (w4.setCell ⟨g, k * 3 + 2, none⟩ (.slice pa fa.length ca)).heap.size := by simpa using hb4s
    generalize w3.heap.size = N at hSK hg2 hN5
    generalize w4.setCell ⟨g, k * 3 + 2, none⟩ (.slice pa fa.length ca) = w5 at hSK hB5 hN5 ⊢
    generalize fs.set k ⟨fs[k].x, pa, ca⟩ = es at hSK hsE' hel
    generalize fs.length = n at *
    obtain ⟨at5, hc5⟩ := hB5.codes
    have hnx := Lib.hid (next_any l a0 cap C at5 9 w5 hl (by omega) (by omega) hc5)
    have hr := nextN_lt l at5 9 (by omega)
    obtain ⟨q, hq0, hq1, hq2⟩ : ∃ q : Int, ((nextN l at5 9 : Nat) : Int) = q ∧ 0 ≤ q ∧ q < 9 := ⟨_, rfl, by omega, by omega⟩
    rw [hq0] at hnx
    clear hq0 hr hc5
    go_upto_region 7 with (go_at_call 15; refine hnx.out.mono ?_; rintro e w6 ⟨rfl, hk6, hce6⟩)
    have hS6 := hSK.kept hk6 (fun b hb => (hP b hb).2) (by omega)
    have hB6 := hB5.step hk6 hce6 hRC
    have hN6 : N ≤ w6.heap.size := Nat.le_trans hN5 hk6.size
    clear hnx hSK hB5 hk6 hce6
    have hq : q = 0 ∨ q = 1 ∨ q = 2 ∨ q = 3 ∨ q = 4 ∨ q = 5 ∨ q = 6 ∨ q = 7 ∨ q = 8 := by omega
    clear hq1 hq2
    rcases hq with rfl | rfl | rfl | rfl | rfl | rfl | rfl | rfl | rfl
    · obtain ⟨at6, hc6⟩ := hB6.codes
      have hnm := Lib.hid (name_any l a0 cap C at6 w6 hl hc6)
      clear hc6
      go_upto_region 30 with (go_at_call 31; refine hnm.out.mono ?_; rintro e w7 ⟨⟨nm, hnm1, rfl⟩, hk7, hce7⟩; have hS7 := hS6.kept hk7 (fun b hb => (hP b hb).2) (by omega); have hB7 := hB6.step hk7 hce7 hRC; obtain ⟨c0, c1, c2, zf⟩ := hS7.cell)
      have hz := names_small nm hnm1
      have hSp := hS7.put 0 (by decide) (.string nm) ⟨⟨nm, (es[k]'hS7.kl).x.key, (es[k]'hS7.kl).x.attrs⟩, (es[k]'hS7.kl).p, (es[k]'hS7.kl).c⟩ rfl hS7.att hS7.hdr hS7.eq
      have hbp := hB7.set h hG (X := g) (by omega) (by omega) (k * 3 + 0) (.string nm)
      have hkE := hS7.kl
      have hsm9 := small_set (k := k) (e := ⟨⟨nm, (es[k]'hS7.kl).x.key, (es[k]'hS7.kl).x.attrs⟩, (es[k]'hS7.kl).p, (es[k]'hS7.kl).c⟩) hsE' (⟨⟨by show nm.size ≤ _; omega, (hsE' _ (List.getElem_mem hkE)).fit.key, (hsE' _ (List.getElem_mem hkE)).fit.attrs, (hsE' _ (List.getElem_mem hkE)).fit.each⟩, (hsE' _ (List.getElem_mem hkE)).few⟩)
      have hrow9 := hSp.row
      have hln9 : (es.set k ⟨⟨nm, (es[k]'hS7.kl).x.key, (es[k]'hS7.kl).x.attrs⟩, (es[k]'hS7.kl).p, (es[k]'hS7.kl).c⟩).length ≤ 8 := by rw [List.length_set]; omega
      clear hSp
      generalize w7.setCell ⟨g, k * 3 + 0, none⟩ (.string nm) = w9 at hrow9 hbp ⊢
      generalize es.set k ⟨⟨nm, (es[k]'hS7.kl).x.key, (es[k]'hS7.kl).x.attrs⟩, (es[k]'hS7.kl).p, (es[k]'hS7.kl).c⟩ = es9 at hrow9 hln9 hsm9
      have zr0 : w9.cell? ⟨w.heap.size + 1, 0, none⟩ = some (.slice none 0 0) := by rw [Lib.cell_of_heap hbp.res]; rfl
      have zrf : ∀ i, w9.frozen? ⟨w.heap.size + 1, i, none⟩ = false := Lib.frozen_of_heap hbp.res
      go_wp2
      refine bodyPost_ret (v := .agg #[.slice (some ⟨g, 0, none⟩) n cv]) (by simp [results, Tryz.results11, go_sem, zr0]) rfl (spoil_end h hP hbp (by omega) (by omega) hrow9 hln9 hsm9)
    · obtain ⟨at6, hc6⟩ := hB6.codes
      have htx := Lib.hid (text_any l a0 cap C at6 w6 hl hc6 hB6.draw)
      clear hc6
      go_upto_region 30 with (go_at_call 32; refine htx.out.mono ?_; rintro e w7 ⟨⟨tx, htx1, rfl⟩, hk7, hce7⟩; have hS7 := hS6.kept hk7 (fun b hb => (hP b hb).2) (by omega); have hB7 := hB6.step hk7 hce7 hRC; obtain ⟨c0, c1, c2, zf⟩ := hS7.cell)
      have hz := drawText_small htx1
      have hSp := hS7.put 1 (by decide) (.string tx) ⟨⟨(es[k]'hS7.kl).x.kind, tx, (es[k]'hS7.kl).x.attrs⟩, (es[k]'hS7.kl).p, (es[k]'hS7.kl).c⟩ rfl hS7.att hS7.hdr hS7.eq
      have hbp := hB7.set h hG (X := g) (by omega) (by omega) (k * 3 + 1) (.string tx)
      have hkE := hS7.kl
      have hsm9 := small_set (k := k) (e := ⟨⟨(es[k]'hS7.kl).x.kind, tx, (es[k]'hS7.kl).x.attrs⟩, (es[k]'hS7.kl).p, (es[k]'hS7.kl).c⟩) hsE' (⟨⟨(hsE' _ (List.getElem_mem hkE)).fit.kind, by show tx.size ≤ _; omega, (hsE' _ (List.getElem_mem hkE)).fit.attrs, (hsE' _ (List.getElem_mem hkE)).fit.each⟩, (hsE' _ (List.getElem_mem hkE)).few⟩)
      have hrow9 := hSp.row
      have hln9 : (es.set k ⟨⟨(es[k]'hS7.kl).x.kind, tx, (es[k]'hS7.kl).x.attrs⟩, (es[k]'hS7.kl).p, (es[k]'hS7.kl).c⟩).length ≤ 8 := by rw [List.length_set]; omega
      clear hSp
      generalize w7.setCell ⟨g, k * 3 + 1, none⟩ (.string tx) = w9 at hrow9 hbp ⊢
      generalize es.set k ⟨⟨(es[k]'hS7.kl).x.kind, tx, (es[k]'hS7.kl).x.attrs⟩, (es[k]'hS7.kl).p, (es[k]'hS7.kl).c⟩ = es9 at hrow9 hln9 hsm9
      have zr0 : w9.cell? ⟨w.heap.size + 1, 0, none⟩ = some (.slice none 0 0) := by rw [Lib.cell_of_heap hbp.res]; rfl
      have zrf : ∀ i, w9.frozen? ⟨w.heap.size + 1, i, none⟩ = false := Lib.frozen_of_heap hbp.res
      go_wp2
      refine bodyPost_ret (v := .agg #[.slice (some ⟨g, 0, none⟩) n cv]) (by simp [results, Tryz.results11, go_sem, zr0]) rfl (spoil_end h hP hbp (by omega) (by omega) hrow9 hln9 hsm9)
    · obtain ⟨c0, c1, c2, zf⟩ := hS6.cell
      have hdr := (Below.refl w6.heap.size w6).drew
      have hS6d := hS6.below hdr
      have hB6d := hB6.step (Kept.of_below hdr) (by obtain ⟨at6, hc6⟩ := hB6.codes; exact ⟨_, hc6.below hdr⟩) hRC
      have d6 := hS6d.cell.2.2.1
      obtain ⟨at6, hc6⟩ := hB6d.codes
      have hnm := Lib.hid (name_any l a0 cap C at6 w6.drew hl hc6)
      have hlen2 : fa.length + 1 ≤ 1000 := by omega
      clear hc6
      go_upto_region 12 with (fail)
      refine wp_region_held_drew (S := fun _ => True) (by kernel_rfl) (trivial) (fun hHeld => ?_)
      refine wpAnyH_take (i := 0) (v := ?_) rfl (by kernel_rfl) (by kernel_rfl) (by kernel_rfl) (fun _ _ _ h => h) (Or.inl ⟨by rfl, ?_⟩) hHeld ?_
      rotate_left
      · intro w' hSw
        go_simp
        try with_reducible rfl
      try simp only [List.getElem_toArray, List.getElem_cons_succ, List.getElem_cons_zero, Act.put, List.setIfInBounds_toArray, List.set_cons_zero, List.set_cons_succ]
      refine wpAnyH_take (i := 1) (v := ?_) rfl (by kernel_rfl) (by kernel_rfl) (by kernel_rfl) (fun _ _ _ h => h) (Or.inl ⟨by rfl, ?_⟩) hHeld ?_
      rotate_left
      · intro w' hSw
        go_simp
        try with_reducible rfl
      try simp only [List.getElem_toArray, List.getElem_cons_succ, List.getElem_cons_zero, Act.put, List.setIfInBounds_toArray, List.set_cons_zero, List.set_cons_succ]
      refine wpAnyH_take (i := 2) (v := ?_) rfl (by kernel_rfl) (by kernel_rfl) (by kernel_rfl) (fun _ _ _ h => h) (Or.inl ⟨by rfl, ?_⟩) hHeld ?_
      rotate_left
      · intro w' hSw
        go_simp
        try with_reducible rfl
      try simp only [List.getElem_toArray, List.getElem_cons_succ, List.getElem_cons_zero, Act.put, List.setIfInBounds_toArray, List.set_cons_zero, List.set_cons_succ]
      refine wpAnyH_take (i := 3) (v := ?_) rfl (by kernel_rfl) (by kernel_rfl) (by kernel_rfl) (fun _ _ _ h => h) (Or.inl ⟨by rfl, ?_⟩) hHeld ?_
      rotate_left
      · intro w' hSw
        go_simp
        try with_reducible rfl
      try simp only [List.getElem_toArray, List.getElem_cons_succ, List.getElem_cons_zero, Act.put, List.setIfInBounds_toArray, List.set_cons_zero, List.set_cons_succ]
      refine wpAnyH_take (i := 4) (v := ?_) rfl (by kernel_rfl) (by kernel_rfl) (by kernel_rfl) (fun _ _ _ h => h) (Or.inl ⟨by rfl, ?_⟩) hHeld ?_
      rotate_left
      · intro w' hSw
        go_simp
        try with_reducible rfl
      try simp only [List.getElem_toArray, List.getElem_cons_succ, List.getElem_cons_zero, Act.put, List.setIfInBounds_toArray, List.set_cons_zero, List.set_cons_succ]
      refine wpAnyH_take (i := 5) (v := ?_) rfl (by kernel_rfl) (by kernel_rfl) (by kernel_rfl) (fun _ _ _ h => h) (Or.inl ⟨by rfl, ?_⟩) hHeld ?_
      rotate_left
      · intro w' hSw
        go_simp
        try with_reducible rfl
      try simp only [List.getElem_toArray, List.getElem_cons_succ, List.getElem_cons_zero, Act.put, List.setIfInBounds_toArray, List.set_cons_zero, List.set_cons_succ]
      refine wpAnyH_take (i := 7) (v := ?_) rfl (by kernel_rfl) (by kernel_rfl) (by kernel_rfl) (fun _ _ _ h => h) (Or.inl ⟨by rfl, ?_⟩) hHeld ?_
      rotate_left
      · intro w' hSw
        go_simp
        try with_reducible rfl
      try simp only [List.getElem_toArray, List.getElem_cons_succ, List.getElem_cons_zero, Act.put, List.setIfInBounds_toArray, List.set_cons_zero, List.set_cons_succ]
      refine wpAnyH_take (i := 9) (v := ?_) rfl (by kernel_rfl) (by kernel_rfl) (by kernel_rfl) (fun _ _ _ h => h) (Or.inl ⟨by rfl, ?_⟩) hHeld ?_
      rotate_left
      · intro w' hSw
        go_simp
        try with_reducible rfl
      try simp only [List.getElem_toArray, List.getElem_cons_succ, List.getElem_cons_zero, Act.put, List.setIfInBounds_toArray, List.set_cons_zero, List.set_cons_succ]
      refine wpAnyH_ready (rs := [6, 8]) (by kernel_rfl) (by simp) ?_
      refine AllReadyH.cons rfl (fun K hK => ?_) (AllReadyH.cons rfl (fun K hK => ?_) AllReadyH.nil)
      · go_simp
        refine hK.out _ _ trivial (fun _ => ?_)
        clear hK K
        try simp only [List.getElem_toArray, List.getElem_cons_succ, List.getElem_cons_zero, Act.put, List.setIfInBounds_toArray, List.set_cons_zero, List.set_cons_succ]
        refine wpAnyH_ready (rs := [8]) (by kernel_rfl) (by simp) ?_
        refine AllReadyH.cons rfl (fun K hK => ?_) AllReadyH.nil
        go_simp
        go_at_call 31
        refine hnm.out.mono ?_
        rintro e w7 ⟨⟨nm, hnm1, rfl⟩, hk7, hce7⟩
        have hS7 := hS6d.kept hk7 (fun b hb => (hP b hb).2) (by omega)
        have hB7 := hB6d.step hk7 hce7 hRC
        obtain ⟨at7, hc7⟩ := hB7.codes
        have hnz := names_small nm hnm1
        have hN7 : N ≤ w7.heap.size := Nat.le_trans hN6 hk7.size
        have hany := Lib.hid (any_any l a0 cap C at7 w7 hl hc7 hB7.draw)
        have d7 := hS7.cell.2.2.1
        have hg7 := hS7.gB
        refine hK.out _ _ trivial (fun _ => ?_)
        clear hK K
        try simp only [List.getElem_toArray, List.getElem_cons_succ, List.getElem_cons_zero, Act.put, List.setIfInBounds_toArray, List.set_cons_zero, List.set_cons_succ]
        refine wpAnyH_ready (rs := [10]) (by kernel_rfl) (by simp) ?_
        refine AllReadyH.cons rfl (fun K hK => ?_) AllReadyH.nil
        go_simp
        go_at_call 16
        refine hany.out.mono ?_
        rintro e w8 ⟨⟨⟨k', n', t', l'⟩, b8, c8, rfl, ⟨kk, hkk, hdr8⟩, htx8, hnd8, hld8⟩, hk8, hce8⟩
        unfold Val.agg
        have hS8 := hS7.kept hk8 (fun b hb => (hP b hb).2) (by omega)
        have hB8 := hB7.step hk8 hce8 hRC
        have d8 := hS8.cell.2.2.1
        have hown8 := hS8.att.lt
        have hown7 := hS7.att.lt
        have hBN := hS8.BN
        have hal := fun o => (Below.refl w8.heap.size w8).alloc (Nat.le_refl _) o
        have hS8' := fun o => hS8.below (hal o)
        have d8' := fun o => (hS8' o).cell.2.2.1
        have hB8' := fun o => hB8.step (Kept.of_below (hal o)) (by obtain ⟨at8, hc8⟩ := hce8; exact ⟨_, hc8.below (hal o)⟩) hRC
        have hNs8 : N ≤ w8.heap.size := Nat.le_trans hN7 hk8.size
        have hlp8 := listP_from (P := fun b => ((P b ∨ w.heap.size + 2 ≤ b) ∧ g ≠ b) ∧ (Value.slice pa fa.length ca).ownBlock ≠ some b) htx8 hnd8 hld8 (fun b hb => ⟨⟨.inr (by omega), by omega⟩, fun e => by have := (hown7 b e).2; omega⟩)
        refine hK.out _ _ trivial (fun _ => ?_)
        clear hK K
        try simp only [List.getElem_toArray, List.getElem_cons_succ, List.getElem_cons_zero, Act.put, List.setIfInBounds_toArray, List.set_cons_zero, List.set_cons_succ]
        refine wpAnyH_take (i := 11) (v := ?_) rfl (by kernel_rfl) (by kernel_rfl) (by kernel_rfl) (fun _ _ _ h => h) (Or.inl ⟨by rfl, ?_⟩) hHeld ?_
        rotate_left
        · intro w' hSw
          go_simp
          try with_reducible rfl
        try simp only [List.getElem_toArray, List.getElem_cons_succ, List.getElem_cons_zero, Act.put, List.setIfInBounds_toArray, List.set_cons_zero, List.set_cons_succ]
        refine wpAnyH_ready (rs := [12]) (by kernel_rfl) (by simp) ?_
        refine AllReadyH.cons rfl (fun K hK => ?_) AllReadyH.nil
        go_simp
        refine hK.out _ _ trivial (fun _ => ?_)
        clear hK K
        try simp only [List.getElem_toArray, List.getElem_cons_succ, List.getElem_cons_zero, Act.put, List.setIfInBounds_toArray, List.set_cons_zero, List.set_cons_succ]
        refine wpAnyH_ready (rs := [13]) (by kernel_rfl) (by simp) ?_
        refine AllReadyH.cons rfl (fun K hK => ?_) AllReadyH.nil
        refine step_grow eltA (by rfl) _ _ (by rfl) (hS8' _).att (by rfl) [⟨⟨nm, ⟨k', n', t', l'⟩⟩, b8, c8⟩] ⟨w8.heap.size, 0, none⟩ 1 1 (by rfl) (by rfl) (news_one eltA ⟨⟨nm, ⟨k', n', t', l'⟩⟩, b8, c8⟩ w8) (fun e he => by obtain rfl := List.mem_singleton.1 he; exact hlp8.same (SameB.of_below (hal _))) (by decide) hlen2 (Nat.le_trans hNs8 (hal _).size) ?_
        intro g9 c9 w9 hrow9 hgr9 hlies9 hb9
        obtain ⟨d9, zf9⟩ := (hS8' _).lowcell hb9
        refine hK.out _ _ trivial (fun _ => ?_)
        clear hK K
        try simp only [List.getElem_toArray, List.getElem_cons_succ, List.getElem_cons_zero, Act.put, List.setIfInBounds_toArray, List.set_cons_zero, List.set_cons_succ]
        refine wpAnyH_take (i := 14) (v := ?_) rfl (by kernel_rfl) (by kernel_rfl) (by kernel_rfl) (fun _ _ _ h => h) (Or.inl ⟨by rfl, ?_⟩) hHeld ?_
        rotate_left
        · intro w' hSw
          go_simp
          try with_reducible rfl
        try simp only [List.getElem_toArray, List.getElem_cons_succ, List.getElem_cons_zero, Act.put, List.setIfInBounds_toArray, List.set_cons_zero, List.set_cons_succ]
        refine wpAnyH_take (i := 15) (v := ?_) rfl (by kernel_rfl) (by kernel_rfl) (by kernel_rfl) (fun _ _ _ h => h) (Or.inl ⟨by rfl, ?_⟩) hHeld ?_
        rotate_left
        · intro w' hSw
          go_simp
          try with_reducible rfl
        try simp only [List.getElem_toArray, List.getElem_cons_succ, List.getElem_cons_zero, Act.put, List.setIfInBounds_toArray, List.set_cons_zero, List.set_cons_succ]
        refine wpAnyH_ready (rs := [16]) (by kernel_rfl) (by simp) ?_
        refine AllReadyH.cons rfl (fun K hK => ?_) AllReadyH.nil
        go_simp
        refine hK.out _ _ trivial (fun _ => ?_)
        clear hK K
        try simp only [List.getElem_toArray, List.getElem_cons_succ, List.getElem_cons_zero, Act.put, List.setIfInBounds_toArray, List.set_cons_zero, List.set_cons_succ]
        refine wpAnyH_done (by kernel_rfl) ?_ _
        have hSp := (hS8' _).next hb9 hrow9
        have hbp := ((hB8' _).low h hG hb9 (by omega) (by omega)).set h hG (X := g) (by omega) (by omega) (k * 3 + 2) (.slice (some ⟨g9, 0, none⟩) (fa.length + 1) c9)
        have hkE := hS8.kl
        have hsm9 := small_set (k := k) (e := ⟨⟨(es[k]'hkE).x.kind, (es[k]'hkE).x.key, (fa ++ [(⟨⟨nm, ⟨k', n', t', l'⟩⟩, b8, c8⟩ : AEl)]).map AEl.a⟩, some ⟨g9, 0, none⟩, c9⟩) hsE' (small_add (hsE' _ (List.getElem_mem hkE)) hS8.eq (by omega) (drawn_fit hdr8 nm hnz))
        go_upto_region 30 with (fail)
        have hrow9 := hSp.row
        have hln9 : (es.set k ⟨⟨(es[k]'hkE).x.kind, (es[k]'hkE).x.key, (fa ++ [(⟨⟨nm, ⟨k', n', t', l'⟩⟩, b8, c8⟩ : AEl)]).map AEl.a⟩, some ⟨g9, 0, none⟩, c9⟩).length ≤ 8 := by rw [List.length_set]; omega
        clear hSp
        generalize World.setCell _ _ _ = w9 at hrow9 hbp ⊢
        generalize es.set k _ = es9 at hrow9 hln9 hsm9
        have zr0 : w9.cell? ⟨w.heap.size + 1, 0, none⟩ = some (.slice none 0 0) := by rw [Lib.cell_of_heap hbp.res]; rfl
        have zrf : ∀ i, w9.frozen? ⟨w.heap.size + 1, i, none⟩ = false := Lib.frozen_of_heap hbp.res
        go_wp2
        refine bodyPost_ret (v := .agg #[.slice (some ⟨g, 0, none⟩) n cv]) (by simp [results, Tryz.results11, go_sem, zr0]) rfl (spoil_end h hP hbp (by omega) (by omega) hrow9 hln9 hsm9)
      · go_simp
        go_at_call 31
        refine hnm.out.mono ?_
        rintro e w7 ⟨⟨nm, hnm1, rfl⟩, hk7, hce7⟩
        have hS7 := hS6d.kept hk7 (fun b hb => (hP b hb).2) (by omega)
        have hB7 := hB6d.step hk7 hce7 hRC
        obtain ⟨at7, hc7⟩ := hB7.codes
        have hnz := names_small nm hnm1
        have hN7 : N ≤ w7.heap.size := Nat.le_trans hN6 hk7.size
        have hany := Lib.hid (any_any l a0 cap C at7 w7 hl hc7 hB7.draw)
        have d7 := hS7.cell.2.2.1
        have hg7 := hS7.gB
        refine hK.out _ _ trivial (fun _ => ?_)
        clear hK K
        try simp only [List.getElem_toArray, List.getElem_cons_succ, List.getElem_cons_zero, Act.put, List.setIfInBounds_toArray, List.set_cons_zero, List.set_cons_succ]
        refine wpAnyH_ready (rs := [6, 10]) (by kernel_rfl) (by simp) ?_
        refine AllReadyH.cons rfl (fun K hK => ?_) (AllReadyH.cons rfl (fun K hK => ?_) AllReadyH.nil)
        · go_simp
          refine hK.out _ _ trivial (fun _ => ?_)
          clear hK K
          try simp only [List.getElem_toArray, List.getElem_cons_succ, List.getElem_cons_zero, Act.put, List.setIfInBounds_toArray, List.set_cons_zero, List.set_cons_succ]
          refine wpAnyH_ready (rs := [10]) (by kernel_rfl) (by simp) ?_
          refine AllReadyH.cons rfl (fun K hK => ?_) AllReadyH.nil
          go_simp
          go_at_call 16
          refine hany.out.mono ?_
          rintro e w8 ⟨⟨⟨k', n', t', l'⟩, b8, c8, rfl, ⟨kk, hkk, hdr8⟩, htx8, hnd8, hld8⟩, hk8, hce8⟩
          unfold Val.agg
          have hS8 := hS7.kept hk8 (fun b hb => (hP b hb).2) (by omega)
          have hB8 := hB7.step hk8 hce8 hRC
          have d8 := hS8.cell.2.2.1
          have hown8 := hS8.att.lt
          have hown7 := hS7.att.lt
          have hBN := hS8.BN
          have hal := fun o => (Below.refl w8.heap.size w8).alloc (Nat.le_refl _) o
          have hS8' := fun o => hS8.below (hal o)
          have d8' := fun o => (hS8' o).cell.2.2.1
          have hB8' := fun o => hB8.step (Kept.of_below (hal o)) (by obtain ⟨at8, hc8⟩ := hce8; exact ⟨_, hc8.below (hal o)⟩) hRC
          have hNs8 : N ≤ w8.heap.size := Nat.le_trans hN7 hk8.size
          have hlp8 := listP_from (P := fun b => ((P b ∨ w.heap.size + 2 ≤ b) ∧ g ≠ b) ∧ (Value.slice pa fa.length ca).ownBlock ≠ some b) htx8 hnd8 hld8 (fun b hb => ⟨⟨.inr (by omega), by omega⟩, fun e => by have := (hown7 b e).2; omega⟩)
          refine hK.out _ _ trivial (fun _ => ?_)
          clear hK K
          try simp only [List.getElem_toArray, List.getElem_cons_succ, List.getElem_cons_zero, Act.put, List.setIfInBounds_toArray, List.set_cons_zero, List.set_cons_succ]
          refine wpAnyH_take (i := 11) (v := ?_) rfl (by kernel_rfl) (by kernel_rfl) (by kernel_rfl) (fun _ _ _ h => h) (Or.inl ⟨by rfl, ?_⟩) hHeld ?_
          rotate_left
          · intro w' hSw
            go_simp
            try with_reducible rfl
          try simp only [List.getElem_toArray, List.getElem_cons_succ, List.getElem_cons_zero, Act.put, List.setIfInBounds_toArray, List.set_cons_zero, List.set_cons_succ]
          refine wpAnyH_ready (rs := [12]) (by kernel_rfl) (by simp) ?_
          refine AllReadyH.cons rfl (fun K hK => ?_) AllReadyH.nil
          go_simp
          refine hK.out _ _ trivial (fun _ => ?_)
          clear hK K
          try simp only [List.getElem_toArray, List.getElem_cons_succ, List.getElem_cons_zero, Act.put, List.setIfInBounds_toArray, List.set_cons_zero, List.set_cons_succ]
          refine wpAnyH_ready (rs := [13]) (by kernel_rfl) (by simp) ?_
          refine AllReadyH.cons rfl (fun K hK => ?_) AllReadyH.nil
          refine step_grow eltA (by rfl) _ _ (by rfl) (hS8' _).att (by rfl) [⟨⟨nm, ⟨k', n', t', l'⟩⟩, b8, c8⟩] ⟨w8.heap.size, 0, none⟩ 1 1 (by rfl) (by rfl) (news_one eltA ⟨⟨nm, ⟨k', n', t', l'⟩⟩, b8, c8⟩ w8) (fun e he => by obtain rfl := List.mem_singleton.1 he; exact hlp8.same (SameB.of_below (hal _))) (by decide) hlen2 (Nat.le_trans hNs8 (hal _).size) ?_
          intro g9 c9 w9 hrow9 hgr9 hlies9 hb9
          obtain ⟨d9, zf9⟩ := (hS8' _).lowcell hb9
          refine hK.out _ _ trivial (fun _ => ?_)
          clear hK K
          try simp only [List.getElem_toArray, List.getElem_cons_succ, List.getElem_cons_zero, Act.put, List.setIfInBounds_toArray, List.set_cons_zero, List.set_cons_succ]
          refine wpAnyH_take (i := 14) (v := ?_) rfl (by kernel_rfl) (by kernel_rfl) (by kernel_rfl) (fun _ _ _ h => h) (Or.inl ⟨by rfl, ?_⟩) hHeld ?_
          rotate_left
          · intro w' hSw
            go_simp
            try with_reducible rfl
          try simp only [List.getElem_toArray, List.getElem_cons_succ, List.getElem_cons_zero, Act.put, List.setIfInBounds_toArray, List.set_cons_zero, List.set_cons_succ]
          refine wpAnyH_take (i := 15) (v := ?_) rfl (by kernel_rfl) (by kernel_rfl) (by kernel_rfl) (fun _ _ _ h => h) (Or.inl ⟨by rfl, ?_⟩) hHeld ?_
          rotate_left
          · intro w' hSw
            go_simp
            try with_reducible rfl
          try simp only [List.getElem_toArray, List.getElem_cons_succ, List.getElem_cons_zero, Act.put, List.setIfInBounds_toArray, List.set_cons_zero, List.set_cons_succ]
          refine wpAnyH_ready (rs := [16]) (by kernel_rfl) (by simp) ?_
          refine AllReadyH.cons rfl (fun K hK => ?_) AllReadyH.nil
          go_simp
          refine hK.out _ _ trivial (fun _ => ?_)
          clear hK K
          try simp only [List.getElem_toArray, List.getElem_cons_succ, List.getElem_cons_zero, Act.put, List.setIfInBounds_toArray, List.set_cons_zero, List.set_cons_succ]
          refine wpAnyH_done (by kernel_rfl) ?_ _
          have hSp := (hS8' _).next hb9 hrow9
          have hbp := ((hB8' _).low h hG hb9 (by omega) (by omega)).set h hG (X := g) (by omega) (by omega) (k * 3 + 2) (.slice (some ⟨g9, 0, none⟩) (fa.length + 1) c9)
          have hkE := hS8.kl
          have hsm9 := small_set (k := k) (e := ⟨⟨(es[k]'hkE).x.kind, (es[k]'hkE).x.key, (fa ++ [(⟨⟨nm, ⟨k', n', t', l'⟩⟩, b8, c8⟩ : AEl)]).map AEl.a⟩, some ⟨g9, 0, none⟩, c9⟩) hsE' (small_add (hsE' _ (List.getElem_mem hkE)) hS8.eq (by omega) (drawn_fit hdr8 nm hnz))
          go_upto_region 30 with (fail)
          have hrow9 := hSp.row
          have hln9 : (es.set k ⟨⟨(es[k]'hkE).x.kind, (es[k]'hkE).x.key, (fa ++ [(⟨⟨nm, ⟨k', n', t', l'⟩⟩, b8, c8⟩ : AEl)]).map AEl.a⟩, some ⟨g9, 0, none⟩, c9⟩).length ≤ 8 := by rw [List.length_set]; omega
          clear hSp
          generalize World.setCell _ _ _ = w9 at hrow9 hbp ⊢
          generalize es.set k _ = es9 at hrow9 hln9 hsm9
          have zr0 : w9.cell? ⟨w.heap.size + 1, 0, none⟩ = some (.slice none 0 0) := by rw [Lib.cell_of_heap hbp.res]; rfl
          have zrf : ∀ i, w9.frozen? ⟨w.heap.size + 1, i, none⟩ = false := Lib.frozen_of_heap hbp.res
          go_wp2
          refine bodyPost_ret (v := .agg #[.slice (some ⟨g, 0, none⟩) n cv]) (by simp [results, Tryz.results11, go_sem, zr0]) rfl (spoil_end h hP hbp (by omega) (by omega) hrow9 hln9 hsm9)
        · go_simp
          go_at_call 16
          refine hany.out.mono ?_
          rintro e w8 ⟨⟨⟨k', n', t', l'⟩, b8, c8, rfl, ⟨kk, hkk, hdr8⟩, htx8, hnd8, hld8⟩, hk8, hce8⟩
          unfold Val.agg
          have hS8 := hS7.kept hk8 (fun b hb => (hP b hb).2) (by omega)
          have hB8 := hB7.step hk8 hce8 hRC
          have d8 := hS8.cell.2.2.1
          have hown8 := hS8.att.lt
          have hown7 := hS7.att.lt
          have hBN := hS8.BN
          have hal := fun o => (Below.refl w8.heap.size w8).alloc (Nat.le_refl _) o
          have hS8' := fun o => hS8.below (hal o)
          have d8' := fun o => (hS8' o).cell.2.2.1
          have hB8' := fun o => hB8.step (Kept.of_below (hal o)) (by obtain ⟨at8, hc8⟩ := hce8; exact ⟨_, hc8.below (hal o)⟩) hRC
          have hNs8 : N ≤ w8.heap.size := Nat.le_trans hN7 hk8.size
          have hlp8 := listP_from (P := fun b => ((P b ∨ w.heap.size + 2 ≤ b) ∧ g ≠ b) ∧ (Value.slice pa fa.length ca).ownBlock ≠ some b) htx8 hnd8 hld8 (fun b hb => ⟨⟨.inr (by omega), by omega⟩, fun e => by have := (hown7 b e).2; omega⟩)
          refine hK.out _ _ trivial (fun _ => ?_)
          clear hK K
          try simp only [List.getElem_toArray, List.getElem_cons_succ, List.getElem_cons_zero, Act.put, List.setIfInBounds_toArray, List.set_cons_zero, List.set_cons_succ]
          refine wpAnyH_take (i := 11) (v := ?_) rfl (by kernel_rfl) (by kernel_rfl) (by kernel_rfl) (fun _ _ _ h => h) (Or.inl ⟨by rfl, ?_⟩) hHeld ?_
          rotate_left
          · intro w' hSw
            go_simp
            try with_reducible rfl
          try simp only [List.getElem_toArray, List.getElem_cons_succ, List.getElem_cons_zero, Act.put, List.setIfInBounds_toArray, List.set_cons_zero, List.set_cons_succ]
          refine wpAnyH_ready (rs := [6, 12]) (by kernel_rfl) (by simp) ?_
          refine AllReadyH.cons rfl (fun K hK => ?_) (AllReadyH.cons rfl (fun K hK => ?_) AllReadyH.nil)
          · go_simp
            refine hK.out _ _ trivial (fun _ => ?_)
            clear hK K
            try simp only [List.getElem_toArray, List.getElem_cons_succ, List.getElem_cons_zero, Act.put, List.setIfInBounds_toArray, List.set_cons_zero, List.set_cons_succ]
            refine wpAnyH_ready (rs := [12]) (by kernel_rfl) (by simp) ?_
            refine AllReadyH.cons rfl (fun K hK => ?_) AllReadyH.nil
            go_simp
            refine hK.out _ _ trivial (fun _ => ?_)
            clear hK K
            try simp only [List.getElem_toArray, List.getElem_cons_succ, List.getElem_cons_zero, Act.put, List.setIfInBounds_toArray, List.set_cons_zero, List.set_cons_succ]
            refine wpAnyH_ready (rs := [13]) (by kernel_rfl) (by simp) ?_
            refine AllReadyH.cons rfl (fun K hK => ?_) AllReadyH.nil
            refine step_grow eltA (by rfl) _ _ (by rfl) (hS8' _).att (by rfl) [⟨⟨nm, ⟨k', n', t', l'⟩⟩, b8, c8⟩] ⟨w8.heap.size, 0, none⟩ 1 1 (by rfl) (by rfl) (news_one eltA ⟨⟨nm, ⟨k', n', t', l'⟩⟩, b8, c8⟩ w8) (fun e he => by obtain rfl := List.mem_singleton.1 he; exact hlp8.same (SameB.of_below (hal _))) (by decide) hlen2 (Nat.le_trans hNs8 (hal _).size) ?_
            intro g9 c9 w9 hrow9 hgr9 hlies9 hb9
            obtain ⟨d9, zf9⟩ := (hS8' _).lowcell hb9
            refine hK.out _ _ trivial (fun _ => ?_)
            clear hK K
            try simp only [List.getElem_toArray, List.getElem_cons_succ, List.getElem_cons_zero, Act.put, List.setIfInBounds_toArray, List.set_cons_zero, List.set_cons_succ]
            refine wpAnyH_take (i := 14) (v := ?_) rfl (by kernel_rfl) (by kernel_rfl) (by kernel_rfl) (fun _ _ _ h => h) (Or.inl ⟨by rfl, ?_⟩) hHeld ?_
            rotate_left
            · intro w' hSw
              go_simp
              try with_reducible rfl
            try simp only [List.getElem_toArray, List.getElem_cons_succ, List.getElem_cons_zero, Act.put, List.setIfInBounds_toArray, List.set_cons_zero, List.set_cons_succ]
            refine wpAnyH_take (i := 15) (v := ?_) rfl (by kernel_rfl) (by kernel_rfl) (by kernel_rfl) (fun _ _ _ h => h) (Or.inl ⟨by rfl, ?_⟩) hHeld ?_
            rotate_left
            · intro w' hSw
              go_simp
              try with_reducible rfl
            try simp only [List.getElem_toArray, List.getElem_cons_succ, List.getElem_cons_zero, Act.put, List.setIfInBounds_toArray, List.set_cons_zero, List.set_cons_succ]
            refine wpAnyH_ready (rs := [16]) (by kernel_rfl) (by simp) ?_
            refine AllReadyH.cons rfl (fun K hK => ?_) AllReadyH.nil
            go_simp
            refine hK.out _ _ trivial (fun _ => ?_)
            clear hK K
            try simp only [List.getElem_toArray, List.getElem_cons_succ, List.getElem_cons_zero, Act.put, List.setIfInBounds_toArray, List.set_cons_zero, List.set_cons_succ]
            refine wpAnyH_done (by kernel_rfl) ?_ _
            have hSp := (hS8' _).next hb9 hrow9
            have hbp := ((hB8' _).low h hG hb9 (by omega) (by omega)).set h hG (X := g) (by omega) (by omega) (k * 3 + 2) (.slice (some ⟨g9, 0, none⟩) (fa.length + 1) c9)
            have hkE := hS8.kl
            have hsm9 := small_set (k := k) (e := ⟨⟨(es[k]'hkE).x.kind, (es[k]'hkE).x.key, (fa ++ [(⟨⟨nm, ⟨k', n', t', l'⟩⟩, b8, c8⟩ : AEl)]).map AEl.a⟩, some ⟨g9, 0, none⟩, c9⟩) hsE' (small_add (hsE' _ (List.getElem_mem hkE)) hS8.eq (by omega) (drawn_fit hdr8 nm hnz))
            go_upto_region 30 with (fail)
            have hrow9 := hSp.row
            have hln9 : (es.set k ⟨⟨(es[k]'hkE).x.kind, (es[k]'hkE).x.key, (fa ++ [(⟨⟨nm, ⟨k', n', t', l'⟩⟩, b8, c8⟩ : AEl)]).map AEl.a⟩, some ⟨g9, 0, none⟩, c9⟩).length ≤ 8 := by rw [List.length_set]; omega
            clear hSp
            generalize World.setCell _ _ _ = w9 at hrow9 hbp ⊢
            generalize es.set k _ = es9 at hrow9 hln9 hsm9
            have zr0 : w9.cell? ⟨w.heap.size + 1, 0, none⟩ = some (.slice none 0 0) := by rw [Lib.cell_of_heap hbp.res]; rfl
            have zrf : ∀ i, w9.frozen? ⟨w.heap.size + 1, i, none⟩ = false := Lib.frozen_of_heap hbp.res
            go_wp2
            refine bodyPost_ret (v := .agg #[.slice (some ⟨g, 0, none⟩) n cv]) (by simp [results, Tryz.results11, go_sem, zr0]) rfl (spoil_end h hP hbp (by omega) (by omega) hrow9 hln9 hsm9)
          · go_simp
            refine hK.out _ _ trivial (fun _ => ?_)
            clear hK K
            try simp only [List.getElem_toArray, List.getElem_cons_succ, List.getElem_cons_zero, Act.put, List.setIfInBounds_toArray, List.set_cons_zero, List.set_cons_succ]
            refine wpAnyH_ready (rs := [6]) (by kernel_rfl) (by simp) ?_
            refine AllReadyH.cons rfl (fun K hK => ?_) AllReadyH.nil
            have d8a := d8' (.cells (eltA.cells ⟨⟨nm, ⟨k', n', t', l'⟩⟩, b8, c8⟩).toArray 72)
            go_simp
            refine hK.out _ _ trivial (fun _ => ?_)
            clear hK K
            try simp only [List.getElem_toArray, List.getElem_cons_succ, List.getElem_cons_zero, Act.put, List.setIfInBounds_toArray, List.set_cons_zero, List.set_cons_succ]
            refine wpAnyH_ready (rs := [13]) (by kernel_rfl) (by simp) ?_
            refine AllReadyH.cons rfl (fun K hK => ?_) AllReadyH.nil
            refine step_grow eltA (by rfl) _ _ (by rfl) (hS8' _).att (by rfl) [⟨⟨nm, ⟨k', n', t', l'⟩⟩, b8, c8⟩] ⟨w8.heap.size, 0, none⟩ 1 1 (by rfl) (by rfl) (news_one eltA ⟨⟨nm, ⟨k', n', t', l'⟩⟩, b8, c8⟩ w8) (fun e he => by obtain rfl := List.mem_singleton.1 he; exact hlp8.same (SameB.of_below (hal _))) (by decide) hlen2 (Nat.le_trans hNs8 (hal _).size) ?_
            intro g9 c9 w9 hrow9 hgr9 hlies9 hb9
            obtain ⟨d9, zf9⟩ := (hS8' _).lowcell hb9
            refine hK.out _ _ trivial (fun _ => ?_)
            clear hK K
            try simp only [List.getElem_toArray, List.getElem_cons_succ, List.getElem_cons_zero, Act.put, List.setIfInBounds_toArray, List.set_cons_zero, List.set_cons_succ]
            refine wpAnyH_take (i := 14) (v := ?_) rfl (by kernel_rfl) (by kernel_rfl) (by kernel_rfl) (fun _ _ _ h => h) (Or.inl ⟨by rfl, ?_⟩) hHeld ?_
            rotate_left
            · intro w' hSw
              go_simp
              try with_reducible rfl
            try simp only [List.getElem_toArray, List.getElem_cons_succ, List.getElem_cons_zero, Act.put, List.setIfInBounds_toArray, List.set_cons_zero, List.set_cons_succ]
            refine wpAnyH_take (i := 15) (v := ?_) rfl (by kernel_rfl) (by kernel_rfl) (by kernel_rfl) (fun _ _ _ h => h) (Or.inl ⟨by rfl, ?_⟩) hHeld ?_
            rotate_left
            · intro w' hSw
              go_simp
              try with_reducible rfl
            try simp only [List.getElem_toArray, List.getElem_cons_succ, List.getElem_cons_zero, Act.put, List.setIfInBounds_toArray, List.set_cons_zero, List.set_cons_succ]
            refine wpAnyH_ready (rs := [16]) (by kernel_rfl) (by simp) ?_
            refine AllReadyH.cons rfl (fun K hK => ?_) AllReadyH.nil
            go_simp
            refine hK.out _ _ trivial (fun _ => ?_)
            clear hK K
            try simp only [List.getElem_toArray, List.getElem_cons_succ, List.getElem_cons_zero, Act.put, List.setIfInBounds_toArray, List.set_cons_zero, List.set_cons_succ]
            refine wpAnyH_done (by kernel_rfl) ?_ _
            have hSp := (hS8' _).next hb9 hrow9
            have hbp := ((hB8' _).low h hG hb9 (by omega) (by omega)).set h hG (X := g) (by omega) (by omega) (k * 3 + 2) (.slice (some ⟨g9, 0, none⟩) (fa.length + 1) c9)
            have hkE := hS8.kl
            have hsm9 := small_set (k := k) (e := ⟨⟨(es[k]'hkE).x.kind, (es[k]'hkE).x.key, (fa ++ [(⟨⟨nm, ⟨k', n', t', l'⟩⟩, b8, c8⟩ : AEl)]).map AEl.a⟩, some ⟨g9, 0, none⟩, c9⟩) hsE' (small_add (hsE' _ (List.getElem_mem hkE)) hS8.eq (by omega) (drawn_fit hdr8 nm hnz))
            go_upto_region 30 with (fail)
            have hrow9 := hSp.row
            have hln9 : (es.set k ⟨⟨(es[k]'hkE).x.kind, (es[k]'hkE).x.key, (fa ++ [(⟨⟨nm, ⟨k', n', t', l'⟩⟩, b8, c8⟩ : AEl)]).map AEl.a⟩, some ⟨g9, 0, none⟩, c9⟩).length ≤ 8 := by rw [List.length_set]; omega
            clear hSp
            generalize World.setCell _ _ _ = w9 at hrow9 hbp ⊢
            generalize es.set k _ = es9 at hrow9 hln9 hsm9
            have zr0 : w9.cell? ⟨w.heap.size + 1, 0, none⟩ = some (.slice none 0 0) := by rw [Lib.cell_of_heap hbp.res]; rfl
            have zrf : ∀ i, w9.frozen? ⟨w.heap.size + 1, i, none⟩ = false := Lib.frozen_of_heap hbp.res
            go_wp2
            refine bodyPost_ret (v := .agg #[.slice (some ⟨g, 0, none⟩) n cv]) (by simp [results, Tryz.results11, go_sem, zr0]) rfl (spoil_end h hP hbp (by omega) (by omega) hrow9 hln9 hsm9)
    · rcases Nat.eq_zero_or_pos fa.length with hf0 | hf0
      · obtain ⟨c0, c1, c2, zf⟩ := hS6.cell
        have hfI : ¬ (0 : Int) < (fa.length : Int) := by omega
        go_upto_region 30 with (fail)
        have hrow9 := hS6.row
        have hln9 : es.length ≤ 8 := by omega
        have hsm9 := hsE'
        have hbp := hB6
        clear c0 c1 c2 zf hS6
        generalize w6 = w9 at hrow9 hbp ⊢
        generalize es = es9 at hrow9 hln9 hsm9
        have zr0 : w9.cell? ⟨w.heap.size + 1, 0, none⟩ = some (.slice none 0 0) := by rw [Lib.cell_of_heap hbp.res]; rfl
        have zrf : ∀ i, w9.frozen? ⟨w.heap.size + 1, i, none⟩ = false := Lib.frozen_of_heap hbp.res
        go_wp2
        refine bodyPost_ret (v := .agg #[.slice (some ⟨g, 0, none⟩) n cv]) (by simp [results, Tryz.results11, go_sem, zr0]) rfl (spoil_end h hP hbp (by omega) (by omega) hrow9 hln9 hsm9)
      · obtain ⟨ga, ca', hga⟩ := hS6.att.addr hf0
        injection hga with hga1 hga2 hga3
        subst hga1
        obtain ⟨c0, c1, c2, zf⟩ := hS6.cell
        have hfI : (0 : Int) < (fa.length : Int) := by omega
        have hdr := (Below.refl w6.heap.size w6).drew
        have hS6d := hS6.below hdr
        have hB6d := hB6.step (Kept.of_below hdr) (by obtain ⟨at6, hc6⟩ := hB6.codes; exact ⟨_, hc6.below hdr⟩) hRC
        obtain ⟨at6, hc6⟩ := hB6d.codes
        have hnx7 := Lib.hid (next_any l a0 cap C at6 7 w6.drew hl (by omega) (by omega) hc6)
        clear hc6
        go_upto_region 15 with (fail)
        refine wp_region_held_drew (S := fun w' => w'.cell? ⟨g, k * 3 + 2, none⟩ = some (.slice (some ⟨ga, 0, none⟩) fa.length ca)) (by kernel_rfl) (c2) (fun hHeld => ?_)
        refine wpAnyH_take (i := 0) (v := ?_) rfl (by kernel_rfl) (by kernel_rfl) (by kernel_rfl) (fun _ _ _ h => h) (Or.inl ⟨by rfl, ?_⟩) hHeld ?_
        rotate_left
        · intro w' hSw
          go_simp
          try with_reducible rfl
        try simp only [List.getElem_toArray, List.getElem_cons_succ, List.getElem_cons_zero, Act.put, List.setIfInBounds_toArray, List.set_cons_zero, List.set_cons_succ]
        refine wpAnyH_take (i := 1) (v := ?_) rfl (by kernel_rfl) (by kernel_rfl) (by kernel_rfl) (fun _ _ _ h => h) (Or.inl ⟨by rfl, ?_⟩) hHeld ?_
        rotate_left
        · intro w' hSw
          go_simp
          try with_reducible rfl
        try simp only [List.getElem_toArray, List.getElem_cons_succ, List.getElem_cons_zero, Act.put, List.setIfInBounds_toArray, List.set_cons_zero, List.set_cons_succ]
        refine wpAnyH_take (i := 2) (v := ?_) rfl (by kernel_rfl) (by kernel_rfl) (by kernel_rfl) (fun _ _ _ h => h) (Or.inl ⟨by rfl, ?_⟩) hHeld ?_
        rotate_left
        · intro w' hSw
          go_simp
          try with_reducible rfl
        try simp only [List.getElem_toArray, List.getElem_cons_succ, List.getElem_cons_zero, Act.put, List.setIfInBounds_toArray, List.set_cons_zero, List.set_cons_succ]
        refine wpAnyH_take (i := 3) (v := ?_) rfl (by kernel_rfl) (by kernel_rfl) (by kernel_rfl) (fun _ _ _ h => h) (Or.inl ⟨by rfl, ?_⟩) hHeld ?_
        rotate_left
        · intro w' hSw
          go_simp
          try with_reducible rfl
        try simp only [List.getElem_toArray, List.getElem_cons_succ, List.getElem_cons_zero, Act.put, List.setIfInBounds_toArray, List.set_cons_zero, List.set_cons_succ]
        refine wpAnyH_take (i := 4) (v := ?_) rfl (by kernel_rfl) (by kernel_rfl) (by kernel_rfl) (fun _ _ _ h => h) (Or.inl ⟨by rfl, ?_⟩) hHeld ?_
        rotate_left
        · intro w' hSw
          have e1 : w'.cell? ⟨g, k * 3 + 2, none⟩ = some (.slice (some ⟨ga, 0, none⟩) fa.length ca) := hSw
          go_simp
          try with_reducible rfl
        try simp only [List.getElem_toArray, List.getElem_cons_succ, List.getElem_cons_zero, Act.put, List.setIfInBounds_toArray, List.set_cons_zero, List.set_cons_succ]
        refine wpAnyH_take (i := 5) (v := ?_) rfl (by kernel_rfl) (by kernel_rfl) (by kernel_rfl) (fun _ _ _ h => h) (Or.inl ⟨by rfl, ?_⟩) hHeld ?_
        rotate_left
        · intro w' hSw
          go_simp
          try with_reducible rfl
        try simp only [List.getElem_toArray, List.getElem_cons_succ, List.getElem_cons_zero, Act.put, List.setIfInBounds_toArray, List.set_cons_zero, List.set_cons_succ]
        refine wpAnyH_take (i := 7) (v := ?_) rfl (by kernel_rfl) (by kernel_rfl) (by kernel_rfl) (fun _ _ _ h => h) (Or.inl ⟨by rfl, ?_⟩) hHeld ?_
        rotate_left
        · intro w' hSw
          go_simp
          try with_reducible rfl
        try simp only [List.getElem_toArray, List.getElem_cons_succ, List.getElem_cons_zero, Act.put, List.setIfInBounds_toArray, List.set_cons_zero, List.set_cons_succ]
        refine wpAnyH_ready (rs := [6]) (by kernel_rfl) (by simp) ?_
        refine AllReadyH.cons rfl (fun K hK => ?_) AllReadyH.nil
        go_simp
        go_at_call 15
        refine hnx7.out.mono ?_
        rintro e w7 ⟨rfl, hk7, hce7⟩
        have hS7 := hS6d.kept hk7 (fun b hb => (hP b hb).2) (by omega)
        have hB7 := hB6d.step hk7 hce7 hRC
        obtain ⟨at7, hc7⟩ := hB7.codes
        have hnum := Lib.hid (drawNum_any l a0 cap C at7 w7 hl hc7)
        have d2 := hS7.cell.2.2.1
        refine hK.out _ _ d2 (fun _ => ?_)
        clear hK K hHeld
        have hHeld : (fun w' => w'.cell? ⟨g, k * 3 + 2, none⟩ = some (.slice (some ⟨ga, 0, none⟩) fa.length ca)) w7 := d2
        try simp only [List.getElem_toArray, List.getElem_cons_succ, List.getElem_cons_zero, Act.put, List.setIfInBounds_toArray, List.set_cons_zero, List.set_cons_succ]
        refine wpAnyH_ready (rs := [8]) (by kernel_rfl) (by simp) ?_
        refine AllReadyH.cons rfl (fun K hK => ?_) AllReadyH.nil
        go_simp
        go_at_call 33
        refine hnum.out.mono ?_
        rintro e w8 ⟨⟨z, rfl⟩, hk8, hce8⟩
        have hS8 := hS7.kept hk8 (fun b hb => (hP b hb).2) (by omega)
        have hB8 := hB7.step hk8 hce8 hRC
        have d3 := hS8.cell.2.2.1
        refine hK.out _ _ d3 (fun _ => ?_)
        clear hK K hHeld
        have hHeld : (fun w' => w'.cell? ⟨g, k * 3 + 2, none⟩ = some (.slice (some ⟨ga, 0, none⟩) fa.length ca)) w8 := d3
        try simp only [List.getElem_toArray, List.getElem_cons_succ, List.getElem_cons_zero, Act.put, List.setIfInBounds_toArray, List.set_cons_zero, List.set_cons_succ]
        refine wpAnyH_take (i := 9) (v := ?_) rfl (by kernel_rfl) (by kernel_rfl) (by kernel_rfl) (fun _ _ _ h => h) (Or.inl ⟨by rfl, ?_⟩) hHeld ?_
        rotate_left
        · intro w' hSw
          go_simp
          try with_reducible rfl
        try simp only [List.getElem_toArray, List.getElem_cons_succ, List.getElem_cons_zero, Act.put, List.setIfInBounds_toArray, List.set_cons_zero, List.set_cons_succ]
        refine wpAnyH_take (i := 10) (v := ?_) rfl (by kernel_rfl) (by kernel_rfl) (by kernel_rfl) (fun _ _ _ h => h) (Or.inl ⟨by rfl, ?_⟩) hHeld ?_
        rotate_left
        · intro w' hSw
          go_simp
          try with_reducible rfl
        try simp only [List.getElem_toArray, List.getElem_cons_succ, List.getElem_cons_zero, Act.put, List.setIfInBounds_toArray, List.set_cons_zero, List.set_cons_succ]
        refine wpAnyH_take (i := 11) (v := ?_) rfl (by kernel_rfl) (by kernel_rfl) (by kernel_rfl) (fun _ _ _ h => h) (Or.inl ⟨by rfl, ?_⟩) hHeld ?_
        rotate_left
        · intro w' hSw
          go_simp
          try with_reducible rfl
        try simp only [List.getElem_toArray, List.getElem_cons_succ, List.getElem_cons_zero, Act.put, List.setIfInBounds_toArray, List.set_cons_zero, List.set_cons_succ]
        obtain ⟨f1, f2, f3, f4, ff⟩ := (att_cells hS8.att hf0)
        have hatt9 := hS8.att.put4 0 hf0 ((nextN l at6 7 : Nat) : Int) z
        simp only [Nat.zero_mul, Nat.zero_add] at hatt9
        have hgaN := (hS8.att.lt ga rfl).1
        have hBN := hS8.BN
        have hS9 := hS8.attset (ga := ga) (((((SameB.refl _ w8).set (B := ga) (fun hb => hb rfl) 1 (.int .i64 ((nextN l at6 7 : Nat) : Int))).set (B := ga) (fun hb => hb rfl) 2 (.int .i64 z)).set (B := ga) (fun hb => hb rfl) 3 (.string ⟨#[]⟩)).set (B := ga) (fun hb => hb rfl) 4 (.slice none 0 0)) hgaN (List.length_set ..) hatt9
        have hbp := (((hB8.set h hG (X := ga) (by omega) (by omega) 1 (.int .i64 ((nextN l at6 7 : Nat) : Int))).set h hG (X := ga) (by omega) (by omega) 2 (.int .i64 z)).set h hG (X := ga) (by omega) (by omega) 3 (.string ⟨#[]⟩)).set h hG (X := ga) (by omega) (by omega) 4 (.slice none 0 0)
        have d9 := hS9.cell.2.2.1
        refine wpAnyH_ready (rs := [12]) (by kernel_rfl) (by simp) ?_
        refine AllReadyH.cons rfl (fun K hK => ?_) AllReadyH.nil
        go_simp
        refine hK.out _ _ d9 (fun _ => ?_)
        clear hK K hHeld
        try simp only [List.getElem_toArray, List.getElem_cons_succ, List.getElem_cons_zero, Act.put, List.setIfInBounds_toArray, List.set_cons_zero, List.set_cons_succ]
        refine wpAnyH_done (by kernel_rfl) ?_ _
        go_upto_region 30 with (fail)
        have hkE := hS8.kl
        have hrow9 := hS9.row
        have hln9 : (es.set k ⟨⟨(es[k]'hkE).x.kind, (es[k]'hkE).x.key, (fa.set 0 ⟨⟨fa[0].a.name, ⟨((nextN l at6 7 : Nat) : Int), z, ⟨#[]⟩, []⟩⟩, none, 0⟩).map AEl.a⟩, (es[k]'hkE).p, (es[k]'hkE).c⟩).length ≤ 8 := by rw [List.length_set]; omega
        have hsE0 := hsE' _ (List.getElem_mem hkE)
        have hsm9 := small_set (k := k) (e := ⟨⟨(es[k]'hkE).x.kind, (es[k]'hkE).x.key, (fa.set 0 ⟨⟨fa[0].a.name, ⟨((nextN l at6 7 : Nat) : Int), z, ⟨#[]⟩, []⟩⟩, none, 0⟩).map AEl.a⟩, (es[k]'hkE).p, (es[k]'hkE).c⟩) hsE' (small_att hsE0 hS8.eq hf0 _ _)
        clear hS9
        generalize World.setCell _ _ _ = w9 at hrow9 hbp ⊢
        generalize es.set k _ = es9 at hrow9 hln9 hsm9
        have zr0 : w9.cell? ⟨w.heap.size + 1, 0, none⟩ = some (.slice none 0 0) := by rw [Lib.cell_of_heap hbp.res]; rfl
        have zrf : ∀ i, w9.frozen? ⟨w.heap.size + 1, i, none⟩ = false := Lib.frozen_of_heap hbp.res
        go_wp2
        refine bodyPost_ret (v := .agg #[.slice (some ⟨g, 0, none⟩) n cv]) (by simp [results, Tryz.results11, go_sem, zr0]) rfl (spoil_end h hP hbp (by omega) (by omega) hrow9 hln9 hsm9)
    · obtain ⟨c0, c1, c2', zf⟩ := hS6.cell
      clear c2'
      have c2 : w6.cell? ⟨g, k * 3 + 2, none⟩ = some (.slice (es[k]'hS6.kl).p ((es[k]'hS6.kl).x.attrs.length : Nat) (es[k]'hS6.kl).c) := own_cell (E := eltC) hS6.own k hS6.kl 2 (by decide)
      have hrow6 := hS6.row
      have hok6 := hrow6.ok _ (List.getElem_mem hS6.kl)
      have hsm6 := hsE' _ (List.getElem_mem hS6.kl)
      have hg6 := hS6.gB
      obtain ⟨e0, he0⟩ : ∃ e0, es[k]'hS6.kl = e0 := ⟨_, rfl⟩
      rw [he0] at c0 c1 c2 hok6 hsm6
      have hal := (Below.refl w6.heap.size w6).alloc (Nat.le_refl _) (.cells (eltC.cells e0).toArray 63)
      have hsz6 : w.heap.size + 2 ≤ (w6.alloc (.cells (eltC.cells e0).toArray 63)).heap.size := Nat.le_trans (by omega) hal.size
      have hlen6 : es.length + 1 ≤ 1000 := by omega
      subst hel
      go_upto_region 30 with (refine wpList_grow eltC rfl (.tmp 94) (.tmp 99) rfl (hrow6.below hal) rfl [e0] ⟨w6.heap.size, 0, none⟩ 1 1 rfl rfl (news_one eltC e0 w6) (fun e he => by obtain rfl := List.mem_singleton.1 he; exact AttrsP.same hok6 (SameB.of_below hal)) (by decide) hlen6 hsz6 ?_; intro g5 c5 w7 hrow7 _ _ hb7)
      have hbp := (hB6.step (Kept.of_below hal) (by obtain ⟨at6, hc6⟩ := hB6.codes; exact ⟨_, hc6.below hal⟩) hRC).low h hG hb7 (by omega) (by omega)
      have hsm9 : ∀ x ∈ es ++ [e0], SmallC x.x := fun x hx => by
        rcases List.mem_append.1 hx with h1 | h1
        · exact hsE' x h1
        · obtain rfl := List.mem_singleton.1 h1; exact hsm6
      have hln9 : (es ++ [e0]).length ≤ 8 := by simp; omega

      generalize es ++ [e0] = es9 at hrow7 hln9 hsm9
      have zr0 : w7.cell? ⟨w.heap.size + 1, 0, none⟩ = some (.slice none 0 0) := by rw [Lib.cell_of_heap hbp.res]; rfl
      have zrf : ∀ i, w7.frozen? ⟨w.heap.size + 1, i, none⟩ = false := Lib.frozen_of_heap hbp.res
      go_wp2
      refine bodyPost_ret (v := .agg #[.slice (some ⟨g5, 0, none⟩) (es.length + 1) c5]) (by simp [results, Tryz.results11, go_sem, zr0]) rfl (spoil_end h hP hbp (by omega) (by omega) hrow7 hln9 hsm9)
    · have hrow6 := hS6.row
      have zf := hS6.cell.2.2.2
      have hg6 := hS6.gB
      clear hS6
      have hn' : es.length = 1 ∨ es.length = 2 := by omega
      subst hel
      rcases hn' with hn1 | hn2
      · obtain ⟨e0, rfl⟩ : ∃ e0, es = [e0] := by
          match es, hn1 with
          | [e], _ => exact ⟨e, rfl⟩
        have c0 : w6.cell? ⟨g, 0, none⟩ = some (.string e0.x.kind) := own_cell (E := eltC) hrow6.own 0 (by simp) 0 (by decide)
        have c1 : w6.cell? ⟨g, 1, none⟩ = some (.string e0.x.key) := own_cell (E := eltC) hrow6.own 0 (by simp) 1 (by decide)
        have c2 : w6.cell? ⟨g, 2, none⟩ = some (.slice e0.p (e0.x.attrs.length : Nat) e0.c) := own_cell (E := eltC) hrow6.own 0 (by simp) 2 (by decide)
        go_upto_region 19 with (fail)
        go_region
        have hbp := (((((hB6.set h hG (X := g) (by omega) (by omega) 0 (.string e0.x.kind)).set h hG (X := g) (by omega) (by omega) 1 (.string e0.x.key)).set h hG (X := g) (by omega) (by omega) 2 (.slice e0.p (e0.x.attrs.length : Nat) e0.c)).set h hG (X := g) (by omega) (by omega) 0 (.string e0.x.kind)).set h hG (X := g) (by omega) (by omega) 1 (.string e0.x.key)).set h hG (X := g) (by omega) (by omega) 2 (.slice e0.p (e0.x.attrs.length : Nat) e0.c)
        have hrow7 := hrow6.put3 0 (by simp) e0 (hrow6.okC e0 (by simp))
        have hrow9 := hrow7.put3 0 (by simp) e0 (hrow7.okC e0 (by simp))
        simp only [List.set_cons_zero, Nat.zero_mul, Nat.zero_add] at hrow9
        generalize World.setCell _ _ _ = w9 at hrow9 hbp ⊢
        replace hrow9 := hrow9.below ((Below.refl w9.heap.size w9).drew)
        replace hbp := hbp.step (Kept.of_below ((Below.refl w9.heap.size w9).drew)) (by obtain ⟨at9, hc9⟩ := hbp.codes; exact ⟨_, hc9.below ((Below.refl w9.heap.size w9).drew)⟩) hRC
        generalize w9.drew = w9 at hrow9 hbp ⊢
        go_upto_region 30 with (fail)
        have zr0 : w9.cell? ⟨w.heap.size + 1, 0, none⟩ = some (.slice none 0 0) := by rw [Lib.cell_of_heap hbp.res]; rfl
        have zrf : ∀ i, w9.frozen? ⟨w.heap.size + 1, i, none⟩ = false := Lib.frozen_of_heap hbp.res
        go_wp2
        refine bodyPost_ret (v := .agg #[.slice (some ⟨g, 0, none⟩) 1 cv]) (by simp [results, Tryz.results11, go_sem, zr0]) rfl (spoil_end h hP hbp (by omega) (by omega) hrow9 (by simp) hsE')
      · obtain ⟨e0, e1, rfl⟩ : ∃ e0 e1, es = [e0, e1] := by
          match es, hn2 with
          | [e, f], _ => exact ⟨e, f, rfl⟩
        have c0 : w6.cell? ⟨g, 0, none⟩ = some (.string e0.x.kind) := own_cell (E := eltC) hrow6.own 0 (by simp) 0 (by decide)
        have c1 : w6.cell? ⟨g, 1, none⟩ = some (.string e0.x.key) := own_cell (E := eltC) hrow6.own 0 (by simp) 1 (by decide)
        have c2 : w6.cell? ⟨g, 2, none⟩ = some (.slice e0.p (e0.x.attrs.length : Nat) e0.c) := own_cell (E := eltC) hrow6.own 0 (by simp) 2 (by decide)
        have c3 : w6.cell? ⟨g, 3, none⟩ = some (.string e1.x.kind) := own_cell (E := eltC) hrow6.own 1 (by simp) 0 (by decide)
        have c4 : w6.cell? ⟨g, 4, none⟩ = some (.string e1.x.key) := own_cell (E := eltC) hrow6.own 1 (by simp) 1 (by decide)
        have c5 : w6.cell? ⟨g, 5, none⟩ = some (.slice e1.p (e1.x.attrs.length : Nat) e1.c) := own_cell (E := eltC) hrow6.own 1 (by simp) 2 (by decide)
        have hbp := (((((hB6.set h hG (X := g) (by omega) (by omega) 0 (.string e1.x.kind)).set h hG (X := g) (by omega) (by omega) 1 (.string e1.x.key)).set h hG (X := g) (by omega) (by omega) 2 (.slice e1.p (e1.x.attrs.length : Nat) e1.c)).set h hG (X := g) (by omega) (by omega) 3 (.string e0.x.kind)).set h hG (X := g) (by omega) (by omega) 4 (.string e0.x.key)).set h hG (X := g) (by omega) (by omega) 5 (.slice e0.p (e0.x.attrs.length : Nat) e0.c)
        have hrow7 := hrow6.put3 0 (by simp) e1 (hrow6.okC e1 (by simp))
        have hok0 := (hrow6.okC e0 (by simp)).same ((((SameB.refl _ w6).set (B := g) (fun hb => hb.2 rfl) (0 * 3) (.string e1.x.kind)).set (B := g) (fun hb => hb.2 rfl) (0 * 3 + 1) (.string e1.x.key)).set (B := g) (fun hb => hb.2 rfl) (0 * 3 + 2) (.slice e1.p (e1.x.attrs.length : Nat) e1.c))
        have hrow9 := hrow7.put3 1 (by simp) e0 hok0
        simp only [List.set_cons_zero, List.set_cons_succ, Nat.zero_mul, Nat.zero_add, Nat.one_mul] at hrow9
        go_upto_region 19 with (fail)
        go_region
        generalize World.setCell _ _ _ = w9 at hrow9 hbp ⊢
        replace hrow9 := hrow9.below ((Below.refl w9.heap.size w9).drew)
        replace hbp := hbp.step (Kept.of_below ((Below.refl w9.heap.size w9).drew)) (by obtain ⟨at9, hc9⟩ := hbp.codes; exact ⟨_, hc9.below ((Below.refl w9.heap.size w9).drew)⟩) hRC
        generalize w9.drew = w9 at hrow9 hbp ⊢
        go_upto_region 30 with (fail)
        have zr0 : w9.cell? ⟨w.heap.size + 1, 0, none⟩ = some (.slice none 0 0) := by rw [Lib.cell_of_heap hbp.res]; rfl
        have zrf : ∀ i, w9.frozen? ⟨w.heap.size + 1, i, none⟩ = false := Lib.frozen_of_heap hbp.res
        go_wp2
        refine bodyPost_ret (v := .agg #[.slice (some ⟨g, 0, none⟩) 2 cv]) (by simp [results, Tryz.results11, go_sem, zr0]) rfl (spoil_end h hP hbp (by omega) (by omega) hrow9 (by simp) (fun x hx => hsE' x (by
          simp only [List.mem_cons, List.not_mem_nil, or_false] at hx ⊢
          exact hx.symm)))
    · have hrow6 := hS6.row
      have hg6 := hS6.gB
      have hal := (Below.refl w6.heap.size w6).alloc (Nat.le_refl _) (.cells (eltC.row threeC).toArray 63)
      have hsz6 : w.heap.size + 2 ≤ (w6.alloc (.cells (eltC.row threeC).toArray 63)).heap.size := Nat.le_trans (by omega) hal.size
      have hlen6 : es.length + 3 ≤ 1000 := by omega
      subst hel
      go_upto_region 30 with (refine wpList_grow eltC rfl (.tmp 121) (.tmp 125) rfl (hrow6.below hal) rfl threeC ⟨w6.heap.size, 0, none⟩ 3 3 rfl rfl (news_row eltC threeC w6) (fun e he => three_ok he) (by decide) hlen6 hsz6 ?_; intro g5 c5 w7 hrow7 _ _ hb7)
      have hbp := (hB6.step (Kept.of_below hal) (by obtain ⟨at6, hc6⟩ := hB6.codes; exact ⟨_, hc6.below hal⟩) hRC).low h hG hb7 (by omega) (by omega)
      have hsm9 : ∀ x ∈ es ++ threeC, SmallC x.x := fun x hx => by
        rcases List.mem_append.1 hx with h1 | h1
        · exact hsE' x h1
        · exact three_small x h1
      have hln9 : (es ++ threeC).length ≤ 8 := by rw [List.length_append, show threeC.length = 3 from rfl]; omega

      generalize es ++ threeC = es9 at hrow7 hln9 hsm9
      have zr0 : w7.cell? ⟨w.heap.size + 1, 0, none⟩ = some (.slice none 0 0) := by rw [Lib.cell_of_heap hbp.res]; rfl
      have zrf : ∀ i, w7.frozen? ⟨w.heap.size + 1, i, none⟩ = false := Lib.frozen_of_heap hbp.res
      go_wp2
      refine bodyPost_ret (v := .agg #[.slice (some ⟨g5, 0, none⟩) (es.length + 3) c5]) (by simp [results, Tryz.results11, go_sem, zr0]) rfl (spoil_end h hP hbp (by omega) (by omega) hrow7 hln9 hsm9)
    · obtain ⟨c0, c1, c2, zf⟩ := hS6.cell
      have hBN := hS6.BN
      have hS7 := hS6.put 2 (by decide) (.slice none 0 0) ⟨⟨(es[k]'hS6.kl).x.kind, (es[k]'hS6.kl).x.key, []⟩, none, 0⟩ rfl (GRow.nil _ _ _ _) rfl rfl
      have hbp7 := hB6.set h hG (X := g) (by omega) (by omega) (k * 3 + 2) (.slice none 0 0)
      have hkE := hS6.kl
      have hsm7 := small_set (k := k) (e := ⟨⟨(es[k]'hkE).x.kind, (es[k]'hkE).x.key, []⟩, none, 0⟩) hsE' ⟨⟨(hsE' _ (List.getElem_mem hkE)).fit.kind, (hsE' _ (List.getElem_mem hkE)).fit.key, by simp, fun a ha => by simp at ha⟩, by simp⟩
      have hN7 : N ≤ (w6.setCell ⟨g, k * 3 + 2, none⟩ (.slice none 0 0)).heap.size := by simpa using hN6
      go_upto_region 24 with (fail)
      obtain ⟨es0, hst⟩ : ∃ es0, Looped P (w.heap.size + 2) N g k n cv (w.heap.size + 1) C l a0 cap w 0 es0 [] (.slice none 0 0) (w6.setCell ⟨g, k * 3 + 2, none⟩ (.slice none 0 0)) := ⟨_, hS7, hbp7, rfl, by rw [List.length_set]; exact hel, hsm7, hN7⟩
      generalize w6.setCell ⟨g, k * 3 + 2, none⟩ (.slice none 0 0) = w7 at hst ⊢
      clear c0 c1 c2 zf hS6 hB6 hS7 hbp7 hkE hsm7 hN7 hN6 hsE'
      go_wp2
      go_loopw [7] (fun i wr => ∃ m : Nat, m ≤ 21 ∧ i = .int .i64 m ∧ ∃ es fa va, Looped P (w.heap.size + 2) N g k n cv (w.heap.size + 1) C l a0 cap w m es fa va wr) (fun i _ => 22 - (intOf i).toNat)
      case atStart => exact ⟨0, Nat.zero_le _, rfl, _, _, _, hst⟩
      case round =>
        obtain ⟨m, hm, rfl, es, fa, va, hL⟩ := hrel
        clear hst
        obtain ⟨pa, ca, rfl, _⟩ := hL.row.att.form
        have hsE' := hL.small
        obtain rfl := hL.len
        have hBN := hL.row.BN
        obtain ⟨atr, hcr⟩ := hL.base.codes
        have hnx2 := Lib.hid (next_any l a0 cap C atr 2 wr hl (by omega) (by omega) hcr)
        have hr2 := nextN_lt l atr 2 (by omega)
        obtain ⟨q2, hq0, hq1, hq2⟩ : ∃ q2 : Int, ((nextN l atr 2 : Nat) : Int) = q2 ∧ 0 ≤ q2 ∧ q2 < 2 := ⟨_, rfl, by omega, by omega⟩
        rw [hq0] at hnx2
        clear hq0 hr2 hcr
        have hmI : (fa.length : Int) ≤ 21 := by omega
        have hmI' : (0 : Int) ≤ (fa.length : Int) := by omega
        by_cases hlt : (fa.length : Int) < 20 + q2
        · obtain ⟨nm, hnmE⟩ : ∃ nm, (⟨#[97]⟩ : ByteArray) ++ Utf8.encode (97 + (fa.length : Int)) = nm := ⟨_, rfl⟩
          have hz : (Utf8.encode (97 + (fa.length : Int))).size = 1 := by rw [encode_low _ (by omega) (by omega)]; rfl
          have hw1 : IntKind.i64.wrap (97 + (fa.length : Int)) = 97 + (fa.length : Int) := by rw [IntKind.wrap_i64]; omega
          have hw2 : IntKind.i32.wrap (97 + (fa.length : Int)) = 97 + (fa.length : Int) := by rw [IntKind.wrap_i32]; omega
          have hnz : nm.size ≤ 100 := by rw [← hnmE, ByteArray.size_append, hz]; decide
          go_upto_region 27 with (go_at_call 15; refine hnx2.out.mono ?_; rintro e w6 ⟨rfl, hk6, hce6⟩)
          have hS6 := hL.row.kept hk6 (fun b hb => (hP b hb).2) (by omega)
          have hB6 := hL.base.step hk6 hce6 hRC
          have hN6 : N ≤ w6.heap.size := Nat.le_trans hL.low hk6.size
          obtain ⟨c0, c1, c2, zf⟩ := hS6.cell
          have hdr := (Below.refl w6.heap.size w6).drew
          have hS7 := hS6.below hdr
          have hB7 := hB6.step (Kept.of_below hdr) (by obtain ⟨at6, hc6⟩ := hB6.codes; exact ⟨_, hc6.below hdr⟩) hRC
          have d7 := hS7.cell.2.2.1
          have hg7 := hS7.gB
          obtain ⟨at7, hc7⟩ := hB7.codes
          have hany := Lib.hid (any_any l a0 cap C at7 w6.drew hl hc7 hB7.draw)
          have hlen2 : fa.length + 1 ≤ 1000 := by omega
          have hN7 : N ≤ w6.drew.heap.size := hN6
          refine wp_region_held_drew (S := fun _ => True) (by kernel_rfl) (trivial) (fun hHeld => ?_)
          refine wpAnyH_take (i := 0) (v := ?_) rfl (by kernel_rfl) (by kernel_rfl) (by kernel_rfl) (fun _ _ _ h => h) (Or.inl ⟨by rfl, ?_⟩) hHeld ?_
          rotate_left
          · intro w' hSw
            go_simp
            try with_reducible rfl
          try simp only [List.getElem_toArray, List.getElem_cons_succ, List.getElem_cons_zero, Act.put, List.setIfInBounds_toArray, List.set_cons_zero, List.set_cons_succ]
          refine wpAnyH_take (i := 1) (v := ?_) rfl (by kernel_rfl) (by kernel_rfl) (by kernel_rfl) (fun _ _ _ h => h) (Or.inl ⟨by rfl, ?_⟩) hHeld ?_
          rotate_left
          · intro w' hSw
            go_simp
            try with_reducible rfl
          try simp only [List.getElem_toArray, List.getElem_cons_succ, List.getElem_cons_zero, Act.put, List.setIfInBounds_toArray, List.set_cons_zero, List.set_cons_succ]
          refine wpAnyH_take (i := 2) (v := ?_) rfl (by kernel_rfl) (by kernel_rfl) (by kernel_rfl) (fun _ _ _ h => h) (Or.inl ⟨by rfl, ?_⟩) hHeld ?_
          rotate_left
          · intro w' hSw
            go_simp
            try with_reducible rfl
          try simp only [List.getElem_toArray, List.getElem_cons_succ, List.getElem_cons_zero, Act.put, List.setIfInBounds_toArray, List.set_cons_zero, List.set_cons_succ]
          refine wpAnyH_take (i := 3) (v := ?_) rfl (by kernel_rfl) (by kernel_rfl) (by kernel_rfl) (fun _ _ _ h => h) (Or.inl ⟨by rfl, ?_⟩) hHeld ?_
          rotate_left
          · intro w' hSw
            go_simp
            try with_reducible rfl
          try simp only [List.getElem_toArray, List.getElem_cons_succ, List.getElem_cons_zero, Act.put, List.setIfInBounds_toArray, List.set_cons_zero, List.set_cons_succ]
          refine wpAnyH_take (i := 4) (v := ?_) rfl (by kernel_rfl) (by kernel_rfl) (by kernel_rfl) (fun _ _ _ h => h) (Or.inl ⟨by rfl, ?_⟩) hHeld ?_
          rotate_left
          · intro w' hSw
            go_simp
            try with_reducible rfl
          try simp only [List.getElem_toArray, List.getElem_cons_succ, List.getElem_cons_zero, Act.put, List.setIfInBounds_toArray, List.set_cons_zero, List.set_cons_succ]
          refine wpAnyH_take (i := 5) (v := ?_) rfl (by kernel_rfl) (by kernel_rfl) (by kernel_rfl) (fun _ _ _ h => h) (Or.inl ⟨by rfl, ?_⟩) hHeld ?_
          rotate_left
          · intro w' hSw
            go_simp
            try with_reducible rfl
          try simp only [List.getElem_toArray, List.getElem_cons_succ, List.getElem_cons_zero, Act.put, List.setIfInBounds_toArray, List.set_cons_zero, List.set_cons_succ]
          refine wpAnyH_take (i := 7) (v := ?_) rfl (by kernel_rfl) (by kernel_rfl) (by kernel_rfl) (fun _ _ _ h => h) (Or.inl ⟨by rfl, ?_⟩) hHeld ?_
          rotate_left
          · intro w' hSw
            go_simp
            try with_reducible rfl
          try simp only [List.getElem_toArray, List.getElem_cons_succ, List.getElem_cons_zero, Act.put, List.setIfInBounds_toArray, List.set_cons_zero, List.set_cons_succ]
          refine wpAnyH_take (i := 8) (v := ?_) rfl (by kernel_rfl) (by kernel_rfl) (by kernel_rfl) (fun _ _ _ h => h) (Or.inl ⟨by rfl, ?_⟩) hHeld ?_
          rotate_left
          · intro w' hSw
            go_simp
            try with_reducible rfl
          try simp only [List.getElem_toArray, List.getElem_cons_succ, List.getElem_cons_zero, Act.put, List.setIfInBounds_toArray, List.set_cons_zero, List.set_cons_succ]
          refine wpAnyH_take (i := 9) (v := ?_) rfl (by kernel_rfl) (by kernel_rfl) (by kernel_rfl) (fun _ _ _ h => h) (Or.inl ⟨by rfl, ?_⟩) hHeld ?_
          rotate_left
          · intro w' hSw
            go_simp
            try with_reducible rfl
          try simp only [List.getElem_toArray, List.getElem_cons_succ, List.getElem_cons_zero, Act.put, List.setIfInBounds_toArray, List.set_cons_zero, List.set_cons_succ]
          refine wpAnyH_take (i := 10) (v := ?_) rfl (by kernel_rfl) (by kernel_rfl) (by kernel_rfl) (fun _ _ _ h => h) (Or.inl ⟨by rfl, ?_⟩) hHeld ?_
          rotate_left
          · intro w' hSw
            go_simp
            try with_reducible rfl
          try simp only [List.getElem_toArray, List.getElem_cons_succ, List.getElem_cons_zero, Act.put, List.setIfInBounds_toArray, List.set_cons_zero, List.set_cons_succ]
          refine wpAnyH_take (i := 11) (v := ?_) rfl (by kernel_rfl) (by kernel_rfl) (by kernel_rfl) (fun _ _ _ h => h) (Or.inl ⟨by rfl, ?_⟩) hHeld ?_
          rotate_left
          · intro w' hSw
            go_simp
            try with_reducible rfl
          try simp only [List.getElem_toArray, List.getElem_cons_succ, List.getElem_cons_zero, Act.put, List.setIfInBounds_toArray, List.set_cons_zero, List.set_cons_succ]
          refine wpAnyH_take (i := 12) (v := ?_) rfl (by kernel_rfl) (by kernel_rfl) (by kernel_rfl) (fun _ _ _ h => h) (Or.inl ⟨by rfl, ?_⟩) hHeld ?_
          rotate_left
          · intro w' hSw
            go_simp
            try with_reducible rfl
          try simp only [List.getElem_toArray, List.getElem_cons_succ, List.getElem_cons_zero, Act.put, List.setIfInBounds_toArray, List.set_cons_zero, List.set_cons_succ]
          refine wpAnyH_ready (rs := [6, 13]) (by kernel_rfl) (by simp) ?_
          refine AllReadyH.cons rfl (fun K hK => ?_) (AllReadyH.cons rfl (fun K hK => ?_) AllReadyH.nil)
          · go_simp
            refine hK.out _ _ trivial (fun _ => ?_)
            clear hK K
            try simp only [List.getElem_toArray, List.getElem_cons_succ, List.getElem_cons_zero, Act.put, List.setIfInBounds_toArray, List.set_cons_zero, List.set_cons_succ]
            refine wpAnyH_ready (rs := [13]) (by kernel_rfl) (by simp) ?_
            refine AllReadyH.cons rfl (fun K hK => ?_) AllReadyH.nil
            go_simp
            go_at_call 16
            refine hany.out.mono ?_
            rintro e w8 ⟨⟨⟨k', n', t', l'⟩, b8, c8, rfl, ⟨kk, hkk, hdr8⟩, htx8, hnd8, hld8⟩, hk8, hce8⟩
            unfold Val.agg
            have hS8 := hS7.kept hk8 (fun b hb => (hP b hb).2) (by omega)
            have hB8 := hB7.step hk8 hce8 hRC
            have d8 := hS8.cell.2.2.1
            have hown8 := hS8.att.lt
            have hown7 := hS7.att.lt
            have hBN := hS8.BN
            have hal := fun o => (Below.refl w8.heap.size w8).alloc (Nat.le_refl _) o
            have hS8' := fun o => hS8.below (hal o)
            have d8' := fun o => (hS8' o).cell.2.2.1
            have hB8' := fun o => hB8.step (Kept.of_below (hal o)) (by obtain ⟨at8, hc8⟩ := hce8; exact ⟨_, hc8.below (hal o)⟩) hRC
            have hNs8 : N ≤ w8.heap.size := Nat.le_trans hN7 hk8.size
            have hlp8 := listP_from (P := fun b => ((P b ∨ w.heap.size + 2 ≤ b) ∧ g ≠ b) ∧ (Value.slice pa fa.length ca).ownBlock ≠ some b) htx8 hnd8 hld8 (fun b hb => ⟨⟨.inr (by omega), by omega⟩, fun e => by have := (hown7 b e).2; omega⟩)
            refine hK.out _ _ trivial (fun _ => ?_)
            clear hK K
            try simp only [List.getElem_toArray, List.getElem_cons_succ, List.getElem_cons_zero, Act.put, List.setIfInBounds_toArray, List.set_cons_zero, List.set_cons_succ]
            refine wpAnyH_take (i := 14) (v := ?_) rfl (by kernel_rfl) (by kernel_rfl) (by kernel_rfl) (fun _ _ _ h => h) (Or.inl ⟨by rfl, ?_⟩) hHeld ?_
            rotate_left
            · intro w' hSw
              go_simp
              try with_reducible rfl
            try simp only [List.getElem_toArray, List.getElem_cons_succ, List.getElem_cons_zero, Act.put, List.setIfInBounds_toArray, List.set_cons_zero, List.set_cons_succ]
            refine wpAnyH_ready (rs := [15]) (by kernel_rfl) (by simp) ?_
            refine AllReadyH.cons rfl (fun K hK => ?_) AllReadyH.nil
            go_simp
            refine hK.out _ _ trivial (fun _ => ?_)
            clear hK K
            try simp only [List.getElem_toArray, List.getElem_cons_succ, List.getElem_cons_zero, Act.put, List.setIfInBounds_toArray, List.set_cons_zero, List.set_cons_succ]
            refine wpAnyH_ready (rs := [16]) (by kernel_rfl) (by simp) ?_
            refine AllReadyH.cons rfl (fun K hK => ?_) AllReadyH.nil
            refine step_grow eltA (by rfl) _ _ (by rfl) (hS8' _).att (by rfl) [⟨⟨nm, ⟨k', n', t', l'⟩⟩, b8, c8⟩] ⟨w8.heap.size, 0, none⟩ 1 1 (by rfl) (by rfl) (news_one eltA ⟨⟨nm, ⟨k', n', t', l'⟩⟩, b8, c8⟩ w8) (fun e he => by obtain rfl := List.mem_singleton.1 he; exact hlp8.same (SameB.of_below (hal _))) (by decide) hlen2 (Nat.le_trans hNs8 (hal _).size) ?_
            intro g9 c9 w9 hrow9 hgr9 hlies9 hb9
            obtain ⟨d9, zf9⟩ := (hS8' _).lowcell hb9
            refine hK.out _ _ trivial (fun _ => ?_)
            clear hK K
            try simp only [List.getElem_toArray, List.getElem_cons_succ, List.getElem_cons_zero, Act.put, List.setIfInBounds_toArray, List.set_cons_zero, List.set_cons_succ]
            refine wpAnyH_take (i := 17) (v := ?_) rfl (by kernel_rfl) (by kernel_rfl) (by kernel_rfl) (fun _ _ _ h => h) (Or.inl ⟨by rfl, ?_⟩) hHeld ?_
            rotate_left
            · intro w' hSw
              go_simp
              try with_reducible rfl
            try simp only [List.getElem_toArray, List.getElem_cons_succ, List.getElem_cons_zero, Act.put, List.setIfInBounds_toArray, List.set_cons_zero, List.set_cons_succ]
            refine wpAnyH_take (i := 18) (v := ?_) rfl (by kernel_rfl) (by kernel_rfl) (by kernel_rfl) (fun _ _ _ h => h) (Or.inl ⟨by rfl, ?_⟩) hHeld ?_
            rotate_left
            · intro w' hSw
              go_simp
              try with_reducible rfl
            try simp only [List.getElem_toArray, List.getElem_cons_succ, List.getElem_cons_zero, Act.put, List.setIfInBounds_toArray, List.set_cons_zero, List.set_cons_succ]
            refine wpAnyH_ready (rs := [19]) (by kernel_rfl) (by simp) ?_
            refine AllReadyH.cons rfl (fun K hK => ?_) AllReadyH.nil
            go_simp
            refine hK.out _ _ trivial (fun _ => ?_)
            clear hK K
            try simp only [List.getElem_toArray, List.getElem_cons_succ, List.getElem_cons_zero, Act.put, List.setIfInBounds_toArray, List.set_cons_zero, List.set_cons_succ]
            refine wpAnyH_done (by kernel_rfl) ?_ _
            have hSp := (hS8' _).next hb9 hrow9
            have hbp := ((hB8' _).low h hG hb9 (by omega) (by omega)).set h hG (X := g) (by omega) (by omega) (k * 3 + 2) (.slice (some ⟨g9, 0, none⟩) (fa.length + 1) c9)
            have hkE := hS8.kl
            have hsm9 := small_set (k := k) (e := ⟨⟨(es[k]'hkE).x.kind, (es[k]'hkE).x.key, (fa ++ [(⟨⟨nm, ⟨k', n', t', l'⟩⟩, b8, c8⟩ : AEl)]).map AEl.a⟩, some ⟨g9, 0, none⟩, c9⟩) hsE' (small_add (hsE' _ (List.getElem_mem hkE)) hS8.eq (by omega) (drawn_fit hdr8 nm hnz))
            go_wp2
            go_roundw
            case rel => exact ⟨fa.length + 1, by omega, by go_num, _, _, _, ⟨hSp, hbp, by simp, by rw [List.length_set]; exact hL.num, hsm9, by have hx : N ≤ w9.heap.size := Nat.le_trans (Nat.le_trans hNs8 (hal _).size) hb9.size; simpa using hx⟩⟩
            case measure => simp [intOf]; omega
          · go_simp
            go_at_call 16
            refine hany.out.mono ?_
            rintro e w8 ⟨⟨⟨k', n', t', l'⟩, b8, c8, rfl, ⟨kk, hkk, hdr8⟩, htx8, hnd8, hld8⟩, hk8, hce8⟩
            unfold Val.agg
            have hS8 := hS7.kept hk8 (fun b hb => (hP b hb).2) (by omega)
            have hB8 := hB7.step hk8 hce8 hRC
            have d8 := hS8.cell.2.2.1
            have hown8 := hS8.att.lt
            have hown7 := hS7.att.lt
            have hBN := hS8.BN
            have hal := fun o => (Below.refl w8.heap.size w8).alloc (Nat.le_refl _) o
            have hS8' := fun o => hS8.below (hal o)
            have d8' := fun o => (hS8' o).cell.2.2.1
            have hB8' := fun o => hB8.step (Kept.of_below (hal o)) (by obtain ⟨at8, hc8⟩ := hce8; exact ⟨_, hc8.below (hal o)⟩) hRC
            have hNs8 : N ≤ w8.heap.size := Nat.le_trans hN7 hk8.size
            have hlp8 := listP_from (P := fun b => ((P b ∨ w.heap.size + 2 ≤ b) ∧ g ≠ b) ∧ (Value.slice pa fa.length ca).ownBlock ≠ some b) htx8 hnd8 hld8 (fun b hb => ⟨⟨.inr (by omega), by omega⟩, fun e => by have := (hown7 b e).2; omega⟩)
            refine hK.out _ _ trivial (fun _ => ?_)
            clear hK K
            try simp only [List.getElem_toArray, List.getElem_cons_succ, List.getElem_cons_zero, Act.put, List.setIfInBounds_toArray, List.set_cons_zero, List.set_cons_succ]
            refine wpAnyH_take (i := 14) (v := ?_) rfl (by kernel_rfl) (by kernel_rfl) (by kernel_rfl) (fun _ _ _ h => h) (Or.inl ⟨by rfl, ?_⟩) hHeld ?_
            rotate_left
            · intro w' hSw
              go_simp
              try with_reducible rfl
            try simp only [List.getElem_toArray, List.getElem_cons_succ, List.getElem_cons_zero, Act.put, List.setIfInBounds_toArray, List.set_cons_zero, List.set_cons_succ]
            refine wpAnyH_ready (rs := [6, 15]) (by kernel_rfl) (by simp) ?_
            refine AllReadyH.cons rfl (fun K hK => ?_) (AllReadyH.cons rfl (fun K hK => ?_) AllReadyH.nil)
            · go_simp
              refine hK.out _ _ trivial (fun _ => ?_)
              clear hK K
              try simp only [List.getElem_toArray, List.getElem_cons_succ, List.getElem_cons_zero, Act.put, List.setIfInBounds_toArray, List.set_cons_zero, List.set_cons_succ]
              refine wpAnyH_ready (rs := [15]) (by kernel_rfl) (by simp) ?_
              refine AllReadyH.cons rfl (fun K hK => ?_) AllReadyH.nil
              go_simp
              refine hK.out _ _ trivial (fun _ => ?_)
              clear hK K
              try simp only [List.getElem_toArray, List.getElem_cons_succ, List.getElem_cons_zero, Act.put, List.setIfInBounds_toArray, List.set_cons_zero, List.set_cons_succ]
              refine wpAnyH_ready (rs := [16]) (by kernel_rfl) (by simp) ?_
              refine AllReadyH.cons rfl (fun K hK => ?_) AllReadyH.nil
              refine step_grow eltA (by rfl) _ _ (by rfl) (hS8' _).att (by rfl) [⟨⟨nm, ⟨k', n', t', l'⟩⟩, b8, c8⟩] ⟨w8.heap.size, 0, none⟩ 1 1 (by rfl) (by rfl) (news_one eltA ⟨⟨nm, ⟨k', n', t', l'⟩⟩, b8, c8⟩ w8) (fun e he => by obtain rfl := List.mem_singleton.1 he; exact hlp8.same (SameB.of_below (hal _))) (by decide) hlen2 (Nat.le_trans hNs8 (hal _).size) ?_
              intro g9 c9 w9 hrow9 hgr9 hlies9 hb9
              obtain ⟨d9, zf9⟩ := (hS8' _).lowcell hb9
              refine hK.out _ _ trivial (fun _ => ?_)
              clear hK K
              try simp only [List.getElem_toArray, List.getElem_cons_succ, List.getElem_cons_zero, Act.put, List.setIfInBounds_toArray, List.set_cons_zero, List.set_cons_succ]
              refine wpAnyH_take (i := 17) (v := ?_) rfl (by kernel_rfl) (by kernel_rfl) (by kernel_rfl) (fun _ _ _ h => h) (Or.inl ⟨by rfl, ?_⟩) hHeld ?_
              rotate_left
              · intro w' hSw
                go_simp
                try with_reducible rfl
              try simp only [List.getElem_toArray, List.getElem_cons_succ, List.getElem_cons_zero, Act.put, List.setIfInBounds_toArray, List.set_cons_zero, List.set_cons_succ]
              refine wpAnyH_take (i := 18) (v := ?_) rfl (by kernel_rfl) (by kernel_rfl) (by kernel_rfl) (fun _ _ _ h => h) (Or.inl ⟨by rfl, ?_⟩) hHeld ?_
              rotate_left
              · intro w' hSw
                go_simp
                try with_reducible rfl
              try simp only [List.getElem_toArray, List.getElem_cons_succ, List.getElem_cons_zero, Act.put, List.setIfInBounds_toArray, List.set_cons_zero, List.set_cons_succ]
              refine wpAnyH_ready (rs := [19]) (by kernel_rfl) (by simp) ?_
              refine AllReadyH.cons rfl (fun K hK => ?_) AllReadyH.nil
              go_simp
              refine hK.out _ _ trivial (fun _ => ?_)
              clear hK K
              try simp only [List.getElem_toArray, List.getElem_cons_succ, List.getElem_cons_zero, Act.put, List.setIfInBounds_toArray, List.set_cons_zero, List.set_cons_succ]
              refine wpAnyH_done (by kernel_rfl) ?_ _
              have hSp := (hS8' _).next hb9 hrow9
              have hbp := ((hB8' _).low h hG hb9 (by omega) (by omega)).set h hG (X := g) (by omega) (by omega) (k * 3 + 2) (.slice (some ⟨g9, 0, none⟩) (fa.length + 1) c9)
              have hkE := hS8.kl
              have hsm9 := small_set (k := k) (e := ⟨⟨(es[k]'hkE).x.kind, (es[k]'hkE).x.key, (fa ++ [(⟨⟨nm, ⟨k', n', t', l'⟩⟩, b8, c8⟩ : AEl)]).map AEl.a⟩, some ⟨g9, 0, none⟩, c9⟩) hsE' (small_add (hsE' _ (List.getElem_mem hkE)) hS8.eq (by omega) (drawn_fit hdr8 nm hnz))
              go_wp2
              go_roundw
              case rel => exact ⟨fa.length + 1, by omega, by go_num, _, _, _, ⟨hSp, hbp, by simp, by rw [List.length_set]; exact hL.num, hsm9, by have hx : N ≤ w9.heap.size := Nat.le_trans (Nat.le_trans hNs8 (hal _).size) hb9.size; simpa using hx⟩⟩
              case measure => simp [intOf]; omega
            · go_simp
              refine hK.out _ _ trivial (fun _ => ?_)
              clear hK K
              try simp only [List.getElem_toArray, List.getElem_cons_succ, List.getElem_cons_zero, Act.put, List.setIfInBounds_toArray, List.set_cons_zero, List.set_cons_succ]
              refine wpAnyH_ready (rs := [6]) (by kernel_rfl) (by simp) ?_
              refine AllReadyH.cons rfl (fun K hK => ?_) AllReadyH.nil
              have d8a := d8' (.cells (eltA.cells ⟨⟨nm, ⟨k', n', t', l'⟩⟩, b8, c8⟩).toArray 72)
              go_simp
              refine hK.out _ _ trivial (fun _ => ?_)
              clear hK K
              try simp only [List.getElem_toArray, List.getElem_cons_succ, List.getElem_cons_zero, Act.put, List.setIfInBounds_toArray, List.set_cons_zero, List.set_cons_succ]
              refine wpAnyH_ready (rs := [16]) (by kernel_rfl) (by simp) ?_
              refine AllReadyH.cons rfl (fun K hK => ?_) AllReadyH.nil
              refine step_grow eltA (by rfl) _ _ (by rfl) (hS8' _).att (by rfl) [⟨⟨nm, ⟨k', n', t', l'⟩⟩, b8, c8⟩] ⟨w8.heap.size, 0, none⟩ 1 1 (by rfl) (by rfl) (news_one eltA ⟨⟨nm, ⟨k', n', t', l'⟩⟩, b8, c8⟩ w8) (fun e he => by obtain rfl := List.mem_singleton.1 he; exact hlp8.same (SameB.of_below (hal _))) (by decide) hlen2 (Nat.le_trans hNs8 (hal _).size) ?_
              intro g9 c9 w9 hrow9 hgr9 hlies9 hb9
              obtain ⟨d9, zf9⟩ := (hS8' _).lowcell hb9
              refine hK.out _ _ trivial (fun _ => ?_)
              clear hK K
              try simp only [List.getElem_toArray, List.getElem_cons_succ, List.getElem_cons_zero, Act.put, List.setIfInBounds_toArray, List.set_cons_zero, List.set_cons_succ]
              refine wpAnyH_take (i := 17) (v := ?_) rfl (by kernel_rfl) (by kernel_rfl) (by kernel_rfl) (fun _ _ _ h => h) (Or.inl ⟨by rfl, ?_⟩) hHeld ?_
              rotate_left
              · intro w' hSw
                go_simp
                try with_reducible rfl
              try simp only [List.getElem_toArray, List.getElem_cons_succ, List.getElem_cons_zero, Act.put, List.setIfInBounds_toArray, List.set_cons_zero, List.set_cons_succ]
              refine wpAnyH_take (i := 18) (v := ?_) rfl (by kernel_rfl) (by kernel_rfl) (by kernel_rfl) (fun _ _ _ h => h) (Or.inl ⟨by rfl, ?_⟩) hHeld ?_
              rotate_left
              · intro w' hSw
                go_simp
                try with_reducible rfl
              try simp only [List.getElem_toArray, List.getElem_cons_succ, List.getElem_cons_zero, Act.put, List.setIfInBounds_toArray, List.set_cons_zero, List.set_cons_succ]
              refine wpAnyH_ready (rs := [19]) (by kernel_rfl) (by simp) ?_
              refine AllReadyH.cons rfl (fun K hK => ?_) AllReadyH.nil
              go_simp
              refine hK.out _ _ trivial (fun _ => ?_)
              clear hK K
              try simp only [List.getElem_toArray, List.getElem_cons_succ, List.getElem_cons_zero, Act.put, List.setIfInBounds_toArray, List.set_cons_zero, List.set_cons_succ]
              refine wpAnyH_done (by kernel_rfl) ?_ _
              have hSp := (hS8' _).next hb9 hrow9
              have hbp := ((hB8' _).low h hG hb9 (by omega) (by omega)).set h hG (X := g) (by omega) (by omega) (k * 3 + 2) (.slice (some ⟨g9, 0, none⟩) (fa.length + 1) c9)
              have hkE := hS8.kl
              have hsm9 := small_set (k := k) (e := ⟨⟨(es[k]'hkE).x.kind, (es[k]'hkE).x.key, (fa ++ [(⟨⟨nm, ⟨k', n', t', l'⟩⟩, b8, c8⟩ : AEl)]).map AEl.a⟩, some ⟨g9, 0, none⟩, c9⟩) hsE' (small_add (hsE' _ (List.getElem_mem hkE)) hS8.eq (by omega) (drawn_fit hdr8 nm hnz))
              go_wp2
              go_roundw
              case rel => exact ⟨fa.length + 1, by omega, by go_num, _, _, _, ⟨hSp, hbp, by simp, by rw [List.length_set]; exact hL.num, hsm9, by have hx : N ≤ w9.heap.size := Nat.le_trans (Nat.le_trans hNs8 (hal _).size) hb9.size; simpa using hx⟩⟩
              case measure => simp [intOf]; omega
        · have hS9 := hL.row
          have hL2 := hL
          go_upto_region 30 with (go_at_call 15; refine hnx2.out.mono ?_; rintro e w6 ⟨rfl, hk6, hce6⟩)
          have hSp := hL.row.kept hk6 (fun b hb => (hP b hb).2) (by omega)
          have hbp := hL.base.step hk6 hce6 hRC
          have hrow9 := hSp.row
          have hln9 : es.length ≤ 8 := by have := hL.num; omega
          have hsm9 := hsE'
          clear hSp hS9 hL2 hL hk6 hsE' hBN
          generalize w6 = w9 at hrow9 hbp ⊢
          generalize es = es9 at hrow9 hln9 hsm9
          have zr0 : w9.cell? ⟨w.heap.size + 1, 0, none⟩ = some (.slice none 0 0) := by rw [Lib.cell_of_heap hbp.res]; rfl
          have zrf : ∀ i, w9.frozen? ⟨w.heap.size + 1, i, none⟩ = false := Lib.frozen_of_heap hbp.res
          go_wp2
          refine bodyPost_ret (v := .agg #[.slice (some ⟨g, 0, none⟩) n cv]) (by simp [results, Tryz.results11, go_sem, zr0]) rfl (spoil_end h hP hbp (by omega) (by omega) hrow9 hln9 hsm9)
    · obtain ⟨c0, c1, c2, zf⟩ := hS6.cell
      have hS7 := hS6
      have hB7 := hB6
      go_upto_region 30 with (fail)
      have hSp := hS7.put 1 (by decide) (.string ⟨#[1]⟩) ⟨⟨(es[k]'hS7.kl).x.kind, ⟨#[1]⟩, (es[k]'hS7.kl).x.attrs⟩, (es[k]'hS7.kl).p, (es[k]'hS7.kl).c⟩ rfl hS7.att hS7.hdr hS7.eq
      have hbp := hB7.set h hG (X := g) (by omega) (by omega) (k * 3 + 1) (.string ⟨#[1]⟩)
      have hkE := hS7.kl
      have hsm9 := small_set (k := k) (e := ⟨⟨(es[k]'hS7.kl).x.kind, ⟨#[1]⟩, (es[k]'hS7.kl).x.attrs⟩, (es[k]'hS7.kl).p, (es[k]'hS7.kl).c⟩) hsE' (⟨⟨(hsE' _ (List.getElem_mem hkE)).fit.kind, by show (1 : Nat) ≤ _; omega, (hsE' _ (List.getElem_mem hkE)).fit.attrs, (hsE' _ (List.getElem_mem hkE)).fit.each⟩, (hsE' _ (List.getElem_mem hkE)).few⟩)
      have hrow9 := hSp.row
      have hln9 : (es.set k ⟨⟨(es[k]'hS7.kl).x.kind, ⟨#[1]⟩, (es[k]'hS7.kl).x.attrs⟩, (es[k]'hS7.kl).p, (es[k]'hS7.kl).c⟩).length ≤ 8 := by rw [List.length_set]; omega
      clear hSp
      generalize w6.setCell ⟨g, k * 3 + 1, none⟩ (.string ⟨#[1]⟩) = w9 at hrow9 hbp ⊢
      generalize es.set k ⟨⟨(es[k]'hS7.kl).x.kind, ⟨#[1]⟩, (es[k]'hS7.kl).x.attrs⟩, (es[k]'hS7.kl).p, (es[k]'hS7.kl).c⟩ = es9 at hrow9 hln9 hsm9
      have zr0 : w9.cell? ⟨w.heap.size + 1, 0, none⟩ = some (.slice none 0 0) := by rw [Lib.cell_of_heap hbp.res]; rfl
      have zrf : ∀ i, w9.frozen? ⟨w.heap.size + 1, i, none⟩ = false := Lib.frozen_of_heap hbp.res
      go_wp2
      refine bodyPost_ret (v := .agg #[.slice (some ⟨g, 0, none⟩) n cv]) (by simp [results, Tryz.results11, go_sem, zr0]) rfl (spoil_end h hP hbp (by omega) (by omega) hrow9 hln9 hsm9)
end Go.Proofs.YtcbnefeedoabeaaGreatDoor
/- The changed subject, where a drawn one is changed. -/
namespace Go.Proofs.YtcbnefeedoabeaaGreatDoor
open Go Go.RowKit

theorem spoil_at {l : List UInt8} {a0 : Option Addr} {cap C at2 cA : Nat} {pA : Option Addr} {w3 w5 : World} {es1 : List CEl} (hl : l.length ≤ 1000000) (hcd : Codes l a0 cap C 0 w3) (hG3 : DrawG C w3) (hd1 : DrawnS (es1.map CEl.x)) (hr5 : GRow eltC (fun b => w3.heap.size ≤ b) es1 w3.heap.size (.slice pA es1.length cA) w5) (hk5 : Kept C w3 w5) (hc5 : Codes l a0 cap C at2 w5) :
    Calls Tryz.prog 11 #[.agg #[.slice pA (es1.length : Nat) cA], .pointer (some ⟨C, 0, none⟩)] w5 (Spoilt (fun b => w3.heap.size ≤ b ∧ b < w5.heap.size) l a0 cap C w5) := by
  have hC3 := hcd.lt
  have hlen1 := hd1.len
  rw [List.length_map] at hlen1
  have hcx : CtxsP (fun b => w3.heap.size ≤ b ∧ b < w5.heap.size) pA cA (es1.map CEl.x) w5 := by
    obtain ⟨a0', cap', hv, hcx⟩ := hr5.ctxs
    injection hv with e1 e2 e3
    subst e1
    subst e3
    exact hcx.mono fun b hb h => ⟨h.elim id (fun e => (hr5.lt b e).1), hb⟩
  have hsp := spoil_any pA cA (es1.map CEl.x) l a0 cap C at2 w5 hl hc5 (hG3.kept hk5) (fun b hb => ⟨hb.2, by have := hb.1; omega⟩) hcx (by rw [List.length_map]; exact hlen1) (fun x hx => ⟨hd1.fit x hx, by
    obtain ⟨kd, hk, hd⟩ := hd1.each x hx
    have := hd.len hk
    omega⟩)
  rw [List.length_map] at hsp
  exact hsp
theorem fit_small {es : List CEl} (h : ∀ x ∈ es, SmallC x.x) : ∀ x ∈ es.map CEl.x, FitC x := fun x hx => by
  obtain ⟨e, he, rfl⟩ := List.mem_map.1 hx
  exact (h e he).fit
end Go.Proofs.YtcbnefeedoabeaaGreatDoor
