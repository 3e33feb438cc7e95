/- What the laws of layer 5 say of their arguments. -/
import Derived.Test.YtcbnefeedoabeaaGreatDoorPk
import Derived.Test.YtcbnefeedoabeaaGreatDoorPi
import Derived.Test.YtcbnefeedoabeaaGreatDoorPj
/- What the laws of layer 5 say of their arguments. -/
namespace Go.Proofs.YtcbnefeedoabeaaGreatDoor
open Go Go.RowKit

/-- A subject that lies in memory and is fit. -/
structure SubjAt (p : Option Addr) (c : Nat) (l : List Ctx) (w : World) : Prop where
  row : CtxsP (fun _ => True) p c l w
  fit : ∀ x ∈ l, FitC x
  len : l.length ≤ 9223372036854775000
theorem SubjAt.below {p : Option Addr} {c : Nat} {l : List Ctx} {w w' : World} (h : SubjAt p c l w) (hb : Below w.heap.size w w') : SubjAt p c l w' := ⟨h.row.same (SameB.of_below hb), h.fit, h.len⟩
/-- A slice of bytes among the arguments. -/
structure BytesIn (a : Option Addr) (l : List UInt8) (c : Nat) (w : World) : Prop where
  le : l.length ≤ c
  bound : c ≤ 9223372036854775807
  at_ : BytesOf a l w
theorem BytesIn.below {a : Option Addr} {l : List UInt8} {c : Nat} {w w' : World} (h : BytesIn a l c w) (hb : Below w.heap.size w w') : BytesIn a l c w' :=
  ⟨h.le, h.bound, fun i hi => by
    obtain ⟨b, off, e1, e2, e3⟩ := h.at_ i hi
    exact ⟨b, off, e1, Nat.lt_of_lt_of_le e2 hb.size, (hb.cell (p := ⟨b, off + i, none⟩) e2).trans e3⟩⟩
theorem subj_at {P : Nat → Prop} {es : List CEl} {B n c : Nat} {p : Option Addr} {w : World} (h : GRow eltC P es B (.slice p n c) w) (_ : es.length = n) (hf : ∀ x ∈ es.map CEl.x, FitC x) (hl : (es.map CEl.x).length ≤ 9223372036854775000) : SubjAt p c (es.map CEl.x) w := by
  obtain ⟨a0, cap, hv, hr⟩ := h.ctxs
  injection hv with e1 e2 e3
  subst e1
  subst e3
  exact ⟨hr.mono fun _ _ _ => trivial, hf, hl⟩
theorem grow_free {α : Type} {E : Elt α} {P : Nat → Prop} {es : List α} {B n c g : Nat} {w : World} (h : GRow E P es B (.slice (some ⟨g, 0, none⟩) n c) w) (i : Nat) : w.frozen? ⟨g, i, none⟩ = false := by
  rcases h.own.2 with ⟨h0, _⟩ | ⟨g', cap', cur, hv, hB, hg, _⟩
  · cases h0
  · have hg' : g = g' := by injection hv with h1; injection h1 with h2; injection h2
    subst hg'
    exact Lib.frozen_of_heap hg i
theorem run_ix0 (g n c : Nat) (W : World) (h : 0 < n) : (Instr.indexAt 23 (.slice (some ⟨g, 0, none⟩) n c) (.int .i64 0)).run Tryz.prog W = .ok (.pointer (some ⟨g, 0, none⟩)) W := by
  have hu : Tryz.prog.underlying 23 = some (.slice (Tryz.prog.elem 23)) := by kernel_rfl
  rw [run_indexAt_slice _ _ _ _ _ _ _ hu, if_pos ⟨Int.le_refl 0, by omega⟩]
  have he : Tryz.prog.elem 23 = 63 := by kernel_rfl
  rw [he, Tryz.sizeOf63]
  simp [Addr.add]
theorem new60 {a : Option Addr} {l : List UInt8} {c : Nat} {w : World} (h : BytesIn a l c w) : Calls Tryz.prog 9 #[.slice a (l.length : Nat) c, .int .i64 60] w fun e w' => e = .returned (.pointer (some ⟨w.heap.size, 0, none⟩)) ∧ Codes (l.take 60) a c w.heap.size 0 w' ∧ Below w.heap.size w w' :=
  new_any l a c 60 w (by have := h.le; have := h.bound; omega) h.le (by omega) h.at_
theorem new80 {a : Option Addr} {l : List UInt8} {c : Nat} {w : World} (h : BytesIn a l c w) : Calls Tryz.prog 9 #[.slice a (l.length : Nat) c, .int .i64 80] w fun e w' => e = .returned (.pointer (some ⟨w.heap.size, 0, none⟩)) ∧ Codes (l.take 80) a c w.heap.size 0 w' ∧ Below w.heap.size w w' :=
  new_any l a c 80 w (by have := h.le; have := h.bound; omega) h.le (by omega) h.at_
end Go.Proofs.YtcbnefeedoabeaaGreatDoor
