/- The document's reading of a value. The document's reading of a subject. -/
import Derived.Test.YtcbnefeedoabeaaGreatDoorPr
import Derived.Test.YtcbnefeedoabeaaGreatDoorPq
import Derived.Test.YtcbnefeedoabeaaGreatDoorPe
/- The document's reading of a value. -/
namespace Go.Proofs.YtcbnefeedoabeaaGreatDoor
open Go Go.RowKit

theorem rq_below {l : List UInt8} {e : Int} {hi Q B : Nat} {w w' : World} (h : Wi.Rq l e hi Q w) (hb : Below B w w') (hQ : Q < B) : Wi.Rq l e hi Q w' := by
  obtain ⟨a, c, b, i, h, hl⟩ := h
  refine ⟨a, c, b, i, ⟨(hb.block Q hQ).trans h.here, h.le, h.small, h.at_le, ⟨Nat.le_trans h.bytes.top hb.size, fun i hi => ?_⟩, h.hiQ, h.err⟩, hl⟩
  obtain ⟨b, off, h1, h2, h3, h4⟩ := h.bytes.at_ i hi
  have := h.hiQ
  exact ⟨b, off, h1, h2, h3, (World.cell?_of_block (w := w) (hb.block b (by omega))).trans h4⟩
theorem rq_lt {l : List UInt8} {e : Int} {hi Q : Nat} {w : World} (h : Wi.Rq l e hi Q w) : Q < w.heap.size := by
  obtain ⟨a, c, b, i, h, hl⟩ := h
  exact h.lt
/-- What the loop over a value's texts holds. -/
structure ReadingQ (n : Nat) (l1 : List UInt8) (e1 : Int) (V B hi Q : Nat) (w : World) (i : Nat) (es : List ByteArray) (v : Value) (wr : World) : Prop where
  row : GRow eltS (fun _ => False) es B v wr
  len : es.length = i
  kept : Kept Q w wr
  zV : wr.heap[V]? = some (.cells #[.int .i64 5, .int .i64 0, .string ⟨#[]⟩, v] 41 (0, 0))
  zH : wr.heap[w.heap.size]? = some (.cells #[.int .i64 0, .int .i64 0, .string ⟨#[]⟩, .slice none 0 0] 41 (0, 0))
  rest : ∃ li ei, Wi.Rq li ei hi Q wr ∧ eachR strR n l1 e1 = (es ++ (eachR strR (n - i) li ei).1, (eachR strR (n - i) li ei).2)
theorem ReadingQ.step {n : Nat} {l1 : List UInt8} {e1 : Int} {V B hi Q : Nat} {w : World} {i : Nat} {es : List ByteArray} {w3 w5 : World} {li : List UInt8} {ei : Int} {o : Obj} {g c : Nat}
    (h : eachR strR n l1 e1 = (es ++ (eachR strR (n - i) li ei).1, (eachR strR (n - i) li ei).2)) (hin : i < n) (hlen : es.length = i) (hrd : Wi.Rq (strR li ei).2.1 (strR li ei).2.2 hi Q w3) (hk : Kept Q w w3)
    (hb : Below B (w3.alloc o) w5) (hB : B ≤ w3.heap.size) (hQ : Q < w.heap.size) (hV : w.heap.size < V) (hVB : V < B) (hrow : GRow eltS (fun _ => False) (es ++ [(strR li ei).1]) B (.slice (some ⟨g, 0, none⟩) (es.length + 1 : Nat) c) w5) {v0 : Value}
    (zV : w5.heap[V]? = some (.cells #[.int .i64 5, .int .i64 0, .string ⟨#[]⟩, v0] 41 (0, 0))) (zH : w3.heap[w.heap.size]? = some (.cells #[.int .i64 0, .int .i64 0, .string ⟨#[]⟩, .slice none 0 0] 41 (0, 0))) :
    ReadingQ n l1 e1 V B hi Q w (i + 1) (es ++ [(strR li ei).1]) (.slice (some ⟨g, 0, none⟩) (es.length + 1 : Nat) c) (w5.setCell ⟨V, 3, none⟩ (.slice (some ⟨g, 0, none⟩) (es.length + 1 : Nat) c)) := by
  have hbA := (((Below.refl w3.heap.size w3).alloc (Nat.le_refl _) o).mono hB).trans hb
  have hbS : Below (w.heap.size + 1) w5 (w5.setCell ⟨V, 3, none⟩ (.slice (some ⟨g, 0, none⟩) (es.length + 1 : Nat) c)) := (Below.refl _ w5).setCell (p := ⟨V, 3, none⟩) (by show w.heap.size + 1 ≤ V; omega) _
  have hbT : Below (w.heap.size + 1) w3 (w5.setCell ⟨V, 3, none⟩ (.slice (some ⟨g, 0, none⟩) (es.length + 1 : Nat) c)) := (hbA.mono (by omega)).trans hbS
  refine ⟨hrow.set hVB (fun b hb => hb.elim) 3 _, by simp [hlen], hk.then_low hbT (by omega), box_put zV _, ?_, (strR li ei).2.1, (strR li ei).2.2, rq_below hrd hbT (by omega), ?_⟩
  · exact (hbT.block w.heap.size (by omega)).trans zH
  · rw [h, show n - i = (n - (i + 1)) + 1 by omega, eachR_succ, List.append_assoc]
    rfl
set_option linter.unusedSimpArgs false in
set_option linter.unusedVariables false in
set_option maxHeartbeats 8000000 in
set_option maxRecDepth 100000 in
theorem refValue_any {l : List UInt8} {e : Int} {hi Q : Nat} {w : World} (h : Wi.Rq l e hi Q w) :
    Calls Tryz.prog 63 #[.pointer (some ⟨Q, 0, none⟩)] w fun en w' => (∃ (q : Option Addr) (d : Nat), en = .returned ((valR true l e).1.agg q d) ∧ ListP (fun b => w.heap.size ≤ b) q d (valR true l e).1.list w') ∧ Kept Q w w' ∧ Wi.Rq (valR true l e).2.1 (valR true l e).2.2 hi Q w' := by
  have hR := rq_lt h
  have hb0 := (Below.refl w.heap.size w).alloc (Nat.le_refl _) (.cells #[.int .i64 0, .int .i64 0, .string ⟨#[]⟩, .slice none 0 0] 41)
  have z0 := heap_alloc_new w (.cells #[.int .i64 0, .int .i64 0, .string ⟨#[]⟩, .slice none 0 0] 41)
  have hs0 : (w.alloc (.cells #[.int .i64 0, .int .i64 0, .string ⟨#[]⟩, .slice none 0 0] 41)).heap.size = w.heap.size + 1 := by simp
  have h0 := rq_below h hb0 hR
  have hN := Wi.refNumber_any' h0
  unfold Wi.DoneQ at hN
  obtain ⟨⟨k, l1, e1⟩, hx⟩ : ∃ x, Wi.numR l e = x := ⟨_, rfl⟩
  have hv : valR true l e = bodyR true k l1 e1 := by unfold valR; rw [hx]
  rw [hx] at hN
  rw [hv]
  simp only at hN
  obtain ⟨r, hr⟩ : ∃ r, bodyR true k l1 e1 = r := ⟨_, rfl⟩
  rw [hr]
  replace hr := Lib.hid hr
  replace hN := Lib.hid hN
  clear hx hv h h0
  go_enter Tryz.func63, Tryz.ntmps63
  go_upto_region 1 with (fail)
  generalize w.alloc (.cells #[.int .i64 0, .int .i64 0, .string ⟨#[]⟩, .slice none 0 0] 41) = w0 at hb0 z0 hs0 hN ⊢
  go_upto_region 2 with (go_at_call 102; refine hN.out.mono ?_; rintro en w1 ⟨rfl, hk1, hrd1⟩)
  have hb2 := (Below.refl w1.heap.size w1).alloc (Nat.le_refl _) (.cells #[.int .i64 k, .int .i64 0, .string ⟨#[]⟩, .slice none 0 0] 41)
  have z2 := heap_alloc_new w1 (.cells #[.int .i64 k, .int .i64 0, .string ⟨#[]⟩, .slice none 0 0] 41)
  generalize w1.alloc (.cells #[.int .i64 k, .int .i64 0, .string ⟨#[]⟩, .slice none 0 0] 41) = w2 at hb2 z2 ⊢
  have hs1 := hk1.size
  have zH2 := (hb2.block w.heap.size (by omega)).trans ((hk1.block w.heap.size (by omega) (by omega)).trans z0)
  have hk2 : Kept Q w w2 := ((Kept.of_below hb0).trans hk1).then_low hb2 (by omega)
  have hrd2 := rq_below hrd1 hb2 (rq_lt hrd1)
  have hV : w.heap.size < w1.heap.size := by omega
  have hVs : w1.heap.size < w2.heap.size := (Array.getElem?_eq_some_iff.1 z2).1
  clear hb2 hN hb0 z0 hk1 hrd1 hs0 hs1
  generalize w1.heap.size = V at z2 hV hVs ⊢
  have c0 : w2.cell? ⟨V, 0, none⟩ = some (.int .i64 k) := by rw [Lib.cell_of_heap z2]; rfl
  by_cases h1 : k = 1 ∨ k = 2
  · have hr' := hr.out.symm.trans (bodyR_num h1)
    clear hr
    subst hr'
    rcases h1 with rfl | rfl
    · skip
      have hC := Lib.hid (Wi.refNumber_any' hrd2)
      go_upto_region 13 with (go_at_call 102; refine hC.out.mono ?_; rintro en w3 ⟨rfl, hk3, hrd3⟩; have z3 := (hk3.block V hVs (by omega)).trans z2; have v0 : w3.cell? ⟨V, 0, none⟩ = some (.int .i64 1) := (by rw [Lib.cell_of_heap z3]; rfl); have v1 : w3.cell? ⟨V, 1, none⟩ = some (.int .i64 0) := (by rw [Lib.cell_of_heap z3]; rfl); have v2 : w3.cell? ⟨V, 2, none⟩ = some (.string ⟨#[]⟩) := (by rw [Lib.cell_of_heap z3]; rfl); have v3 : w3.cell? ⟨V, 3, none⟩ = some (.slice none 0 0) := (by rw [Lib.cell_of_heap z3]; rfl); have vf : ∀ i, w3.frozen? ⟨V, i, none⟩ = false := Lib.frozen_of_heap z3)
      have z4 : (w3.setCell ⟨V, 1, none⟩ (.int .i64 (Wi.numR l1 e1).1)).heap[V]? = some (.cells #[.int .i64 1, .int .i64 (Wi.numR l1 e1).1, .string ⟨#[]⟩, .slice none 0 0] 41 (0, 0)) := box_put z3 _
      have zH4 : (w3.setCell ⟨V, 1, none⟩ (.int .i64 (Wi.numR l1 e1).1)).heap[w.heap.size]? = some (.cells #[.int .i64 0, .int .i64 0, .string ⟨#[]⟩, .slice none 0 0] 41 (0, 0)) := by
        rw [Below.heap_setCell _ _ _ _ (by show w.heap.size ≠ V; omega)]
        exact (hk3.block w.heap.size (by omega) (by omega)).trans zH2
      have hb4 : Below (w.heap.size + 1) w3 (w3.setCell ⟨V, 1, none⟩ (.int .i64 (Wi.numR l1 e1).1)) := (Below.refl _ w3).setCell (p := ⟨V, 1, none⟩) (by show w.heap.size + 1 ≤ V; omega) (.int .i64 (Wi.numR l1 e1).1)
      have hk4 : Kept Q w (w3.setCell ⟨V, 1, none⟩ (.int .i64 (Wi.numR l1 e1).1)) := (hk2.trans hk3).then_low hb4 (by omega)
      have hrd4 := rq_below hrd3 hb4 (by omega : Q < w.heap.size + 1)
      generalize (w3.setCell ⟨V, 1, none⟩ (.int .i64 (Wi.numR l1 e1).1)) = w4 at z4 zH4 hb4 hk4 hrd4 ⊢
      clear v0 v1 v2 v3 vf z3 hk3 hrd3 hC hb4 c0
      have a0 : w4.cell? ⟨V, 0, none⟩ = some (.int .i64 1) := by rw [Lib.cell_of_heap z4]; rfl
      have a1 : w4.cell? ⟨V, 1, none⟩ = some (.int .i64 (Wi.numR l1 e1).1) := by rw [Lib.cell_of_heap z4]; rfl
      have a2 : w4.cell? ⟨V, 2, none⟩ = some (.string ⟨#[]⟩) := by rw [Lib.cell_of_heap z4]; rfl
      have a3 : w4.cell? ⟨V, 3, none⟩ = some (.slice none 0 0) := by rw [Lib.cell_of_heap z4]; rfl
      have r0 : w4.cell? ⟨w.heap.size, 0, none⟩ = some (.int .i64 0) := by rw [Lib.cell_of_heap zH4]; rfl
      have r1 : w4.cell? ⟨w.heap.size, 1, none⟩ = some (.int .i64 0) := by rw [Lib.cell_of_heap zH4]; rfl
      have r2 : w4.cell? ⟨w.heap.size, 2, none⟩ = some (.string ⟨#[]⟩) := by rw [Lib.cell_of_heap zH4]; rfl
      have r3 : w4.cell? ⟨w.heap.size, 3, none⟩ = some (.slice none 0 0) := by rw [Lib.cell_of_heap zH4]; rfl
      have rf : ∀ i, w4.frozen? ⟨w.heap.size, i, none⟩ = false := Lib.frozen_of_heap zH4
      have hbr : Below w.heap.size w4 w4 := Below.refl _ _
      have hXR : ¬ (V < w.heap.size) := by omega
      have zH5 : ((((w4.setCell ⟨w.heap.size, 0, none⟩ (.int .i64 1)).setCell ⟨w.heap.size, 1, none⟩ (.int .i64 (Wi.numR l1 e1).1)).setCell ⟨w.heap.size, 2, none⟩ (.string ⟨#[]⟩)).setCell ⟨w.heap.size, 3, none⟩ (.slice none 0 0)).heap[w.heap.size]? = some (.cells #[.int .i64 1, .int .i64 (Wi.numR l1 e1).1, .string ⟨#[]⟩, .slice none 0 0] 41 (0, 0)) := (box_put (box_put (box_put (box_put zH4 _) _) _) _)
      have hb5 := ((((hbr.setCell (p := ⟨w.heap.size, 0, none⟩) (Nat.le_refl _) (.int .i64 1)).setCell (p := ⟨w.heap.size, 1, none⟩) (Nat.le_refl _) (.int .i64 (Wi.numR l1 e1).1)).setCell (p := ⟨w.heap.size, 2, none⟩) (Nat.le_refl _) (.string ⟨#[]⟩)).setCell (p := ⟨w.heap.size, 3, none⟩) (Nat.le_refl _) (.slice none 0 0))
      have hq5 : ListP (fun b => V < b) none 0 [] ((((w4.setCell ⟨w.heap.size, 0, none⟩ (.int .i64 1)).setCell ⟨w.heap.size, 1, none⟩ (.int .i64 (Wi.numR l1 e1).1)).setCell ⟨w.heap.size, 2, none⟩ (.string ⟨#[]⟩)).setCell ⟨w.heap.size, 3, none⟩ (.slice none 0 0)) := ListP.same (⟨fun _ => rfl, Nat.zero_le _, fun i hi => by simp at hi⟩ : ListP (fun b => V < b) none 0 [] w4) (((((SameB.refl _ w4).set (B := w.heap.size) hXR 0 (.int .i64 1)).set (B := w.heap.size) hXR 1 (.int .i64 (Wi.numR l1 e1).1)).set (B := w.heap.size) hXR 2 (.string ⟨#[]⟩)).set (B := w.heap.size) hXR 3 (.slice none 0 0))
      clear hbr
      go_wp2
      generalize World.setCell _ _ _ = w5 at zH5 hb5 hq5 ⊢
      have s0 : w5.cell? ⟨w.heap.size, 0, none⟩ = some (.int .i64 1) := by rw [Lib.cell_of_heap zH5]; rfl
      have s1 : w5.cell? ⟨w.heap.size, 1, none⟩ = some (.int .i64 (Wi.numR l1 e1).1) := by rw [Lib.cell_of_heap zH5]; rfl
      have s2 : w5.cell? ⟨w.heap.size, 2, none⟩ = some (.string ⟨#[]⟩) := by rw [Lib.cell_of_heap zH5]; rfl
      have s3 : w5.cell? ⟨w.heap.size, 3, none⟩ = some (.slice none 0 0) := by rw [Lib.cell_of_heap zH5]; rfl
      refine bodyPost_ret (v := .agg #[.int .i64 1, .int .i64 (Wi.numR l1 e1).1, .string ⟨#[]⟩, .slice none 0 0]) (by simp [results, Tryz.results63, go_sem, s0, s1, s2, s3]) rfl ⟨⟨none, 0, rfl, hq5.mono fun b _ hb => by omega⟩, hk4.then_low hb5 (Nat.le_refl _), rq_below hrd4 hb5 hR⟩
    · skip
      have hC := Lib.hid (Wi.refNumber_any' hrd2)
      go_upto_region 13 with (go_at_call 102; refine hC.out.mono ?_; rintro en w3 ⟨rfl, hk3, hrd3⟩; have z3 := (hk3.block V hVs (by omega)).trans z2; have v0 : w3.cell? ⟨V, 0, none⟩ = some (.int .i64 2) := (by rw [Lib.cell_of_heap z3]; rfl); have v1 : w3.cell? ⟨V, 1, none⟩ = some (.int .i64 0) := (by rw [Lib.cell_of_heap z3]; rfl); have v2 : w3.cell? ⟨V, 2, none⟩ = some (.string ⟨#[]⟩) := (by rw [Lib.cell_of_heap z3]; rfl); have v3 : w3.cell? ⟨V, 3, none⟩ = some (.slice none 0 0) := (by rw [Lib.cell_of_heap z3]; rfl); have vf : ∀ i, w3.frozen? ⟨V, i, none⟩ = false := Lib.frozen_of_heap z3)
      have z4 : (w3.setCell ⟨V, 1, none⟩ (.int .i64 (Wi.numR l1 e1).1)).heap[V]? = some (.cells #[.int .i64 2, .int .i64 (Wi.numR l1 e1).1, .string ⟨#[]⟩, .slice none 0 0] 41 (0, 0)) := box_put z3 _
      have zH4 : (w3.setCell ⟨V, 1, none⟩ (.int .i64 (Wi.numR l1 e1).1)).heap[w.heap.size]? = some (.cells #[.int .i64 0, .int .i64 0, .string ⟨#[]⟩, .slice none 0 0] 41 (0, 0)) := by
        rw [Below.heap_setCell _ _ _ _ (by show w.heap.size ≠ V; omega)]
        exact (hk3.block w.heap.size (by omega) (by omega)).trans zH2
      have hb4 : Below (w.heap.size + 1) w3 (w3.setCell ⟨V, 1, none⟩ (.int .i64 (Wi.numR l1 e1).1)) := (Below.refl _ w3).setCell (p := ⟨V, 1, none⟩) (by show w.heap.size + 1 ≤ V; omega) (.int .i64 (Wi.numR l1 e1).1)
      have hk4 : Kept Q w (w3.setCell ⟨V, 1, none⟩ (.int .i64 (Wi.numR l1 e1).1)) := (hk2.trans hk3).then_low hb4 (by omega)
      have hrd4 := rq_below hrd3 hb4 (by omega : Q < w.heap.size + 1)
      generalize (w3.setCell ⟨V, 1, none⟩ (.int .i64 (Wi.numR l1 e1).1)) = w4 at z4 zH4 hb4 hk4 hrd4 ⊢
      clear v0 v1 v2 v3 vf z3 hk3 hrd3 hC hb4 c0
      have a0 : w4.cell? ⟨V, 0, none⟩ = some (.int .i64 2) := by rw [Lib.cell_of_heap z4]; rfl
      have a1 : w4.cell? ⟨V, 1, none⟩ = some (.int .i64 (Wi.numR l1 e1).1) := by rw [Lib.cell_of_heap z4]; rfl
      have a2 : w4.cell? ⟨V, 2, none⟩ = some (.string ⟨#[]⟩) := by rw [Lib.cell_of_heap z4]; rfl
      have a3 : w4.cell? ⟨V, 3, none⟩ = some (.slice none 0 0) := by rw [Lib.cell_of_heap z4]; rfl
      have r0 : w4.cell? ⟨w.heap.size, 0, none⟩ = some (.int .i64 0) := by rw [Lib.cell_of_heap zH4]; rfl
      have r1 : w4.cell? ⟨w.heap.size, 1, none⟩ = some (.int .i64 0) := by rw [Lib.cell_of_heap zH4]; rfl
      have r2 : w4.cell? ⟨w.heap.size, 2, none⟩ = some (.string ⟨#[]⟩) := by rw [Lib.cell_of_heap zH4]; rfl
      have r3 : w4.cell? ⟨w.heap.size, 3, none⟩ = some (.slice none 0 0) := by rw [Lib.cell_of_heap zH4]; rfl
      have rf : ∀ i, w4.frozen? ⟨w.heap.size, i, none⟩ = false := Lib.frozen_of_heap zH4
      have hbr : Below w.heap.size w4 w4 := Below.refl _ _
      have hXR : ¬ (V < w.heap.size) := by omega
      have zH5 : ((((w4.setCell ⟨w.heap.size, 0, none⟩ (.int .i64 2)).setCell ⟨w.heap.size, 1, none⟩ (.int .i64 (Wi.numR l1 e1).1)).setCell ⟨w.heap.size, 2, none⟩ (.string ⟨#[]⟩)).setCell ⟨w.heap.size, 3, none⟩ (.slice none 0 0)).heap[w.heap.size]? = some (.cells #[.int .i64 2, .int .i64 (Wi.numR l1 e1).1, .string ⟨#[]⟩, .slice none 0 0] 41 (0, 0)) := (box_put (box_put (box_put (box_put zH4 _) _) _) _)
      have hb5 := ((((hbr.setCell (p := ⟨w.heap.size, 0, none⟩) (Nat.le_refl _) (.int .i64 2)).setCell (p := ⟨w.heap.size, 1, none⟩) (Nat.le_refl _) (.int .i64 (Wi.numR l1 e1).1)).setCell (p := ⟨w.heap.size, 2, none⟩) (Nat.le_refl _) (.string ⟨#[]⟩)).setCell (p := ⟨w.heap.size, 3, none⟩) (Nat.le_refl _) (.slice none 0 0))
      have hq5 : ListP (fun b => V < b) none 0 [] ((((w4.setCell ⟨w.heap.size, 0, none⟩ (.int .i64 2)).setCell ⟨w.heap.size, 1, none⟩ (.int .i64 (Wi.numR l1 e1).1)).setCell ⟨w.heap.size, 2, none⟩ (.string ⟨#[]⟩)).setCell ⟨w.heap.size, 3, none⟩ (.slice none 0 0)) := ListP.same (⟨fun _ => rfl, Nat.zero_le _, fun i hi => by simp at hi⟩ : ListP (fun b => V < b) none 0 [] w4) (((((SameB.refl _ w4).set (B := w.heap.size) hXR 0 (.int .i64 2)).set (B := w.heap.size) hXR 1 (.int .i64 (Wi.numR l1 e1).1)).set (B := w.heap.size) hXR 2 (.string ⟨#[]⟩)).set (B := w.heap.size) hXR 3 (.slice none 0 0))
      clear hbr
      go_wp2
      generalize World.setCell _ _ _ = w5 at zH5 hb5 hq5 ⊢
      have s0 : w5.cell? ⟨w.heap.size, 0, none⟩ = some (.int .i64 2) := by rw [Lib.cell_of_heap zH5]; rfl
      have s1 : w5.cell? ⟨w.heap.size, 1, none⟩ = some (.int .i64 (Wi.numR l1 e1).1) := by rw [Lib.cell_of_heap zH5]; rfl
      have s2 : w5.cell? ⟨w.heap.size, 2, none⟩ = some (.string ⟨#[]⟩) := by rw [Lib.cell_of_heap zH5]; rfl
      have s3 : w5.cell? ⟨w.heap.size, 3, none⟩ = some (.slice none 0 0) := by rw [Lib.cell_of_heap zH5]; rfl
      refine bodyPost_ret (v := .agg #[.int .i64 2, .int .i64 (Wi.numR l1 e1).1, .string ⟨#[]⟩, .slice none 0 0]) (by simp [results, Tryz.results63, go_sem, s0, s1, s2, s3]) rfl ⟨⟨none, 0, rfl, hq5.mono fun b _ hb => by omega⟩, hk4.then_low hb5 (Nat.le_refl _), rq_below hrd4 hb5 hR⟩
  · by_cases h5 : k = 5
    · have hr' := hr.out.symm.trans (bodyR_list h5)
      obtain ⟨R0, hR0⟩ : ∃ R0, listR 20 strR l1 e1 = R0 := ⟨_, rfl⟩
      rw [hR0] at hr'
      clear hr h1
      subst hr'
      subst h5
      have hA := Wi.refCount_any 20 hrd2
      unfold Wi.DoneQ at hA
      have hle := atR_le 20 5 l1 e1 (by omega)
      unfold listR at hR0
      generalize (Wi.atR 20 5 l1 e1).2.1 = l3 at hA hR0
      generalize (Wi.atR 20 5 l1 e1).2.2 = e3 at hA hR0
      generalize (Wi.atR 20 5 l1 e1).1 = n at hA hle hR0
      have hn : n ≤ 100 := by omega
      clear hle
      replace hR0 := Lib.hid hR0
      replace hA := Lib.hid hA
      go_wp2_with (go_at_call 61; refine hA.out.mono ?_; rintro en w3 ⟨rfl, hk3, hrd3⟩)
      have hst : ReadingQ n l3 e3 V w2.heap.size hi Q w 0 [] (.slice none 0 0) w3 := ⟨GRow.nil eltS _ _ _, rfl, hk2.trans hk3, (hk3.block V hVs (by omega)).trans z2, (hk3.block w.heap.size (by omega) (by omega)).trans zH2, l3, e3, hrd3, rfl⟩
      have hs3 := hk3.size
      clear hA hrd3 hk3 c0 z2 zH2 hrd2 hk2
      generalize w2.heap.size = B at hst hVs hs3 ⊢
      go_loopw [5] (fun i wr => ∃ m : Nat, m ≤ n ∧ i = .int .i64 m ∧ B ≤ wr.heap.size ∧ ∃ es v, ReadingQ n l3 e3 V B hi Q w m es v wr) (fun i _ => n - (intOf i).toNat)
      case atStart => exact ⟨0, Nat.zero_le _, rfl, hs3, _, _, hst⟩
      case round =>
        obtain ⟨m, hm, rfl, hBs, es, v, hC⟩ := hrel
        clear hst hs3
        by_cases hlt : m < n
        · have hmI : (m : Int) < (n : Int) := by omega
          obtain ⟨li, ei, hrd, heq⟩ := hC.rest
          have hd := (Below.refl wr.heap.size wr).drew
          have hrdD := hrd.drew
          have hrowD := hC.row.below hd
          have zVD : wr.drew.heap[V]? = some (.cells #[.int .i64 5, .int .i64 0, .string ⟨#[]⟩, v] 41 (0, 0)) := hC.zV
          have zHD : wr.drew.heap[w.heap.size]? = some (.cells #[.int .i64 0, .int .i64 0, .string ⟨#[]⟩, .slice none 0 0] 41 (0, 0)) := hC.zH
          have hkD := hC.kept.drew
          have hBd : B ≤ wr.drew.heap.size := hBs
          have hlen := hC.len
          have hlen2 : es.length + 1 ≤ 1000 := by omega
          obtain ⟨vA, vC, rfl, -, -, -, -⟩ := hrowD.form
          clear hrd hd hC
          replace heq := Lib.hid heq
          replace hlen := Lib.hid hlen
          go_upto_region 12 with (fail)
          refine wp_region_held_drew (S := fun _ => True) (by kernel_rfl) trivial (fun hHeld => ?_)
          generalize wr.drew = wd at hrdD hrowD zVD zHD hkD hBd ⊢
          have cD : wd.cell? ⟨V, 3, none⟩ = some (.slice vA es.length vC) := by rw [Lib.cell_of_heap zVD]; rfl
          have hT := Lib.hid (Wi.refRText_any 200 hrdD)
          refine wpAnyH_take (i := 0) (v := ?_) rfl (by kernel_rfl) (by kernel_rfl) (by kernel_rfl) (fun _ _ _ h => h) (Or.inl ⟨by rfl, ?_⟩) hHeld ?_
          rotate_left
          · intro w' hSw
            go_simp
            try with_reducible rfl
          try simp only [List.getElem_toArray, List.getElem_cons_succ, List.getElem_cons_zero, Act.put, List.setIfInBounds_toArray, List.set_cons_zero, List.set_cons_succ]
          refine wpAnyH_take (i := 2) (v := ?_) rfl (by kernel_rfl) (by kernel_rfl) (by kernel_rfl) (fun _ _ _ h => h) (Or.inl ⟨by rfl, ?_⟩) hHeld ?_
          rotate_left
          · intro w' hSw
            go_simp
            try with_reducible rfl
          try simp only [List.getElem_toArray, List.getElem_cons_succ, List.getElem_cons_zero, Act.put, List.setIfInBounds_toArray, List.set_cons_zero, List.set_cons_succ]
          refine wpAnyH_ready (rs := [1, 3]) (by kernel_rfl) (by simp) ?_
          refine AllReadyH.cons rfl (fun K hK => ?_) (AllReadyH.cons rfl (fun K hK => ?_) AllReadyH.nil)
          · go_simp
            refine hK.out _ _ trivial (fun _ => ?_)
            clear hK K
            try simp only [List.getElem_toArray, List.getElem_cons_succ, List.getElem_cons_zero, Act.put, List.setIfInBounds_toArray, List.set_cons_zero, List.set_cons_succ]
            refine wpAnyH_ready (rs := [3]) (by kernel_rfl) (by simp) ?_
            refine AllReadyH.cons rfl (fun K hK => ?_) AllReadyH.nil
            go_simp
            go_at_call 62
            refine hT.out.mono ?_
            rintro en w3 ⟨rfl, hk3, hrd3⟩
            have hs3 := hk3.size
            have z3 := (hk3.block V (by omega) (by omega)).trans zVD
            have zH3 := (hk3.block w.heap.size (by omega) (by omega)).trans zHD
            have c3 : w3.cell? ⟨V, 3, none⟩ = some (.slice vA es.length vC) := by rw [Lib.cell_of_heap z3]; rfl
            have hrow3 := hrowD.kept hk3 (by omega) (fun b hb => hb.elim)
            have hal := fun o => (Below.refl w3.heap.size w3).alloc (Nat.le_refl _) o
            have hV3 : V < w3.heap.size := by omega
            have c4 : (w3.alloc (.cells #[.string (Wi.textR 200 li ei).1] 9)).cell? ⟨V, 3, none⟩ = some (.slice vA es.length vC) := ((hal _).cell (p := ⟨V, 3, none⟩) hV3).trans c3
            refine hK.out _ _ trivial (fun _ => ?_)
            clear hK K
            try simp only [List.getElem_toArray, List.getElem_cons_succ, List.getElem_cons_zero, Act.put, List.setIfInBounds_toArray, List.set_cons_zero, List.set_cons_succ]
            refine wpAnyH_ready (rs := [4]) (by kernel_rfl) (by simp) ?_
            refine AllReadyH.cons rfl (fun K hK => ?_) AllReadyH.nil
            go_simp
            refine hK.out _ _ trivial (fun _ => ?_)
            clear hK K
            try simp only [List.getElem_toArray, List.getElem_cons_succ, List.getElem_cons_zero, Act.put, List.setIfInBounds_toArray, List.set_cons_zero, List.set_cons_succ]
            refine wpAnyH_ready (rs := [5]) (by kernel_rfl) (by simp) ?_
            refine AllReadyH.cons rfl (fun K hK => ?_) AllReadyH.nil
            refine step_grow eltS (by rfl) _ _ (by rfl) (hrow3.below (hal _)) (by rfl) [(Wi.textR 200 li ei).1] ⟨w3.heap.size, 0, none⟩ 1 1 (by rfl) (by rfl) (news_one eltS (Wi.textR 200 li ei).1 w3) (fun e he => trivial) (by decide) hlen2 (Nat.le_trans (by omega) (hal _).size) ?_
            intro g5 c5 w5 hrow5 hgr5 hlies5 hb5
            refine hK.out _ _ trivial (fun _ => ?_)
            clear hK K
            try simp only [List.getElem_toArray, List.getElem_cons_succ, List.getElem_cons_zero, Act.put, List.setIfInBounds_toArray, List.set_cons_zero, List.set_cons_succ]
            have z5 := (hb5.block V hVs).trans (((hal _).block V hV3).trans z3)
            have k5 : w5.cell? ⟨V, 3, none⟩ = some (.slice vA es.length vC) := by rw [Lib.cell_of_heap z5]; rfl
            have zf5 : ∀ i, w5.frozen? ⟨V, i, none⟩ = false := Lib.frozen_of_heap z5
            refine wpAnyH_take (i := 6) (v := ?_) rfl (by kernel_rfl) (by kernel_rfl) (by kernel_rfl) (fun _ _ _ h => h) (Or.inl ⟨by rfl, ?_⟩) hHeld ?_
            rotate_left
            · intro w' hSw
              go_simp
              try with_reducible rfl
            try simp only [List.getElem_toArray, List.getElem_cons_succ, List.getElem_cons_zero, Act.put, List.setIfInBounds_toArray, List.set_cons_zero, List.set_cons_succ]
            refine wpAnyH_ready (rs := [7]) (by kernel_rfl) (by simp) ?_
            refine AllReadyH.cons rfl (fun K hK => ?_) AllReadyH.nil
            go_simp
            refine hK.out _ _ trivial (fun _ => ?_)
            clear hK K
            try simp only [List.getElem_toArray, List.getElem_cons_succ, List.getElem_cons_zero, Act.put, List.setIfInBounds_toArray, List.set_cons_zero, List.set_cons_succ]
            refine wpAnyH_done (by kernel_rfl) ?_ _
            have hst := ReadingQ.step heq.out hlt hlen.out hrd3 (hkD.trans hk3) hb5 (by omega) hR hV hVs hrow5 z5 zH3
            have hBs5 := hb5.size
            have hBs6 : B ≤ (w5.setCell ⟨V, 3, none⟩ (.slice (some ⟨g5, 0, none⟩) (es.length + 1 : Nat) c5)).heap.size := by have := (hal ((.cells #[.string (Wi.textR 200 li ei).1] 9))).size; simp; omega
            replace hst := Lib.hid hst
            go_wp2
            go_roundw
            case rel => exact ⟨m + 1, by omega, by go_num, by simpa using hBs6, _, _, hst.out⟩
            case measure => simp [intOf]; omega
          · go_simp
            go_at_call 62
            refine hT.out.mono ?_
            rintro en w3 ⟨rfl, hk3, hrd3⟩
            have hs3 := hk3.size
            have z3 := (hk3.block V (by omega) (by omega)).trans zVD
            have zH3 := (hk3.block w.heap.size (by omega) (by omega)).trans zHD
            have c3 : w3.cell? ⟨V, 3, none⟩ = some (.slice vA es.length vC) := by rw [Lib.cell_of_heap z3]; rfl
            have hrow3 := hrowD.kept hk3 (by omega) (fun b hb => hb.elim)
            have hal := fun o => (Below.refl w3.heap.size w3).alloc (Nat.le_refl _) o
            have hV3 : V < w3.heap.size := by omega
            have c4 : (w3.alloc (.cells #[.string (Wi.textR 200 li ei).1] 9)).cell? ⟨V, 3, none⟩ = some (.slice vA es.length vC) := ((hal _).cell (p := ⟨V, 3, none⟩) hV3).trans c3
            refine hK.out _ _ trivial (fun _ => ?_)
            clear hK K
            try simp only [List.getElem_toArray, List.getElem_cons_succ, List.getElem_cons_zero, Act.put, List.setIfInBounds_toArray, List.set_cons_zero, List.set_cons_succ]
            refine wpAnyH_ready (rs := [1, 4]) (by kernel_rfl) (by simp) ?_
            refine AllReadyH.cons rfl (fun K hK => ?_) (AllReadyH.cons rfl (fun K hK => ?_) AllReadyH.nil)
            · go_simp
              refine hK.out _ _ trivial (fun _ => ?_)
              clear hK K
              try simp only [List.getElem_toArray, List.getElem_cons_succ, List.getElem_cons_zero, Act.put, List.setIfInBounds_toArray, List.set_cons_zero, List.set_cons_succ]
              refine wpAnyH_ready (rs := [4]) (by kernel_rfl) (by simp) ?_
              refine AllReadyH.cons rfl (fun K hK => ?_) AllReadyH.nil
              go_simp
              refine hK.out _ _ trivial (fun _ => ?_)
              clear hK K
              try simp only [List.getElem_toArray, List.getElem_cons_succ, List.getElem_cons_zero, Act.put, List.setIfInBounds_toArray, List.set_cons_zero, List.set_cons_succ]
              refine wpAnyH_ready (rs := [5]) (by kernel_rfl) (by simp) ?_
              refine AllReadyH.cons rfl (fun K hK => ?_) AllReadyH.nil
              refine step_grow eltS (by rfl) _ _ (by rfl) (hrow3.below (hal _)) (by rfl) [(Wi.textR 200 li ei).1] ⟨w3.heap.size, 0, none⟩ 1 1 (by rfl) (by rfl) (news_one eltS (Wi.textR 200 li ei).1 w3) (fun e he => trivial) (by decide) hlen2 (Nat.le_trans (by omega) (hal _).size) ?_
              intro g5 c5 w5 hrow5 hgr5 hlies5 hb5
              refine hK.out _ _ trivial (fun _ => ?_)
              clear hK K
              try simp only [List.getElem_toArray, List.getElem_cons_succ, List.getElem_cons_zero, Act.put, List.setIfInBounds_toArray, List.set_cons_zero, List.set_cons_succ]
              have z5 := (hb5.block V hVs).trans (((hal _).block V hV3).trans z3)
              have k5 : w5.cell? ⟨V, 3, none⟩ = some (.slice vA es.length vC) := by rw [Lib.cell_of_heap z5]; rfl
              have zf5 : ∀ i, w5.frozen? ⟨V, i, none⟩ = false := Lib.frozen_of_heap z5
              refine wpAnyH_take (i := 6) (v := ?_) rfl (by kernel_rfl) (by kernel_rfl) (by kernel_rfl) (fun _ _ _ h => h) (Or.inl ⟨by rfl, ?_⟩) hHeld ?_
              rotate_left
              · intro w' hSw
                go_simp
                try with_reducible rfl
              try simp only [List.getElem_toArray, List.getElem_cons_succ, List.getElem_cons_zero, Act.put, List.setIfInBounds_toArray, List.set_cons_zero, List.set_cons_succ]
              refine wpAnyH_ready (rs := [7]) (by kernel_rfl) (by simp) ?_
              refine AllReadyH.cons rfl (fun K hK => ?_) AllReadyH.nil
              go_simp
              refine hK.out _ _ trivial (fun _ => ?_)
              clear hK K
              try simp only [List.getElem_toArray, List.getElem_cons_succ, List.getElem_cons_zero, Act.put, List.setIfInBounds_toArray, List.set_cons_zero, List.set_cons_succ]
              refine wpAnyH_done (by kernel_rfl) ?_ _
              have hst := ReadingQ.step heq.out hlt hlen.out hrd3 (hkD.trans hk3) hb5 (by omega) hR hV hVs hrow5 z5 zH3
              have hBs5 := hb5.size
              have hBs6 : B ≤ (w5.setCell ⟨V, 3, none⟩ (.slice (some ⟨g5, 0, none⟩) (es.length + 1 : Nat) c5)).heap.size := by have := (hal ((.cells #[.string (Wi.textR 200 li ei).1] 9))).size; simp; omega
              replace hst := Lib.hid hst
              go_wp2
              go_roundw
              case rel => exact ⟨m + 1, by omega, by go_num, by simpa using hBs6, _, _, hst.out⟩
              case measure => simp [intOf]; omega
            · go_simp
              refine hK.out _ _ trivial (fun _ => ?_)
              clear hK K
              try simp only [List.getElem_toArray, List.getElem_cons_succ, List.getElem_cons_zero, Act.put, List.setIfInBounds_toArray, List.set_cons_zero, List.set_cons_succ]
              refine wpAnyH_ready (rs := [1]) (by kernel_rfl) (by simp) ?_
              refine AllReadyH.cons rfl (fun K hK => ?_) AllReadyH.nil
              go_simp
              refine hK.out _ _ trivial (fun _ => ?_)
              clear hK K
              try simp only [List.getElem_toArray, List.getElem_cons_succ, List.getElem_cons_zero, Act.put, List.setIfInBounds_toArray, List.set_cons_zero, List.set_cons_succ]
              refine wpAnyH_ready (rs := [5]) (by kernel_rfl) (by simp) ?_
              refine AllReadyH.cons rfl (fun K hK => ?_) AllReadyH.nil
              refine step_grow eltS (by rfl) _ _ (by rfl) (hrow3.below (hal _)) (by rfl) [(Wi.textR 200 li ei).1] ⟨w3.heap.size, 0, none⟩ 1 1 (by rfl) (by rfl) (news_one eltS (Wi.textR 200 li ei).1 w3) (fun e he => trivial) (by decide) hlen2 (Nat.le_trans (by omega) (hal _).size) ?_
              intro g5 c5 w5 hrow5 hgr5 hlies5 hb5
              refine hK.out _ _ trivial (fun _ => ?_)
              clear hK K
              try simp only [List.getElem_toArray, List.getElem_cons_succ, List.getElem_cons_zero, Act.put, List.setIfInBounds_toArray, List.set_cons_zero, List.set_cons_succ]
              have z5 := (hb5.block V hVs).trans (((hal _).block V hV3).trans z3)
              have k5 : w5.cell? ⟨V, 3, none⟩ = some (.slice vA es.length vC) := by rw [Lib.cell_of_heap z5]; rfl
              have zf5 : ∀ i, w5.frozen? ⟨V, i, none⟩ = false := Lib.frozen_of_heap z5
              refine wpAnyH_take (i := 6) (v := ?_) rfl (by kernel_rfl) (by kernel_rfl) (by kernel_rfl) (fun _ _ _ h => h) (Or.inl ⟨by rfl, ?_⟩) hHeld ?_
              rotate_left
              · intro w' hSw
                go_simp
                try with_reducible rfl
              try simp only [List.getElem_toArray, List.getElem_cons_succ, List.getElem_cons_zero, Act.put, List.setIfInBounds_toArray, List.set_cons_zero, List.set_cons_succ]
              refine wpAnyH_ready (rs := [7]) (by kernel_rfl) (by simp) ?_
              refine AllReadyH.cons rfl (fun K hK => ?_) AllReadyH.nil
              go_simp
              refine hK.out _ _ trivial (fun _ => ?_)
              clear hK K
              try simp only [List.getElem_toArray, List.getElem_cons_succ, List.getElem_cons_zero, Act.put, List.setIfInBounds_toArray, List.set_cons_zero, List.set_cons_succ]
              refine wpAnyH_done (by kernel_rfl) ?_ _
              have hst := ReadingQ.step heq.out hlt hlen.out hrd3 (hkD.trans hk3) hb5 (by omega) hR hV hVs hrow5 z5 zH3
              have hBs5 := hb5.size
              have hBs6 : B ≤ (w5.setCell ⟨V, 3, none⟩ (.slice (some ⟨g5, 0, none⟩) (es.length + 1 : Nat) c5)).heap.size := by have := (hal ((.cells #[.string (Wi.textR 200 li ei).1] 9))).size; simp; omega
              replace hst := Lib.hid hst
              go_wp2
              go_roundw
              case rel => exact ⟨m + 1, by omega, by go_num, by simpa using hBs6, _, _, hst.out⟩
              case measure => simp [intOf]; omega
        · obtain rfl : m = n := by omega
          have hltI : ¬ (m : Int) < (m : Int) := by omega
          obtain ⟨li, ei, hrd4, heq⟩ := hC.rest
          rw [Nat.sub_self] at heq
          have z4 := hC.zV
          have zH4 := hC.zH
          have hk4 := hC.kept
          have hrow := hC.row
          have hlen := hC.len
          obtain ⟨q, cap, rfl, -, -, -, -⟩ := hrow.form
          have hnc := hrow.nilcap
          rw [hlen] at hnc hrow z4
          have hR1 : R0 = (es, li, ei) := by rw [← hR0.out, heq]; simp [eachR]
          have hq4 : ListP (fun b => V < b) q cap es wr := ⟨fun hq => (hnc.2.1 hq).2, by rw [hlen]; exact hnc.2.2.1, ((GRow.list hrow).mono fun b _ hb => by omega).texts⟩
          clear hR0
          subst hR1
          have hlm : m = es.length := hlen.symm
          clear hC hnc hrow heq hlt hm hn hlen hBs
          go_upto_region 13 with (fail)
          subst hlm
          generalize wr = w4 at z4 zH4 hk4 hrd4 hq4 ⊢
          have a0 : w4.cell? ⟨V, 0, none⟩ = some (.int .i64 5) := by rw [Lib.cell_of_heap z4]; rfl
          have a1 : w4.cell? ⟨V, 1, none⟩ = some (.int .i64 0) := by rw [Lib.cell_of_heap z4]; rfl
          have a2 : w4.cell? ⟨V, 2, none⟩ = some (.string ⟨#[]⟩) := by rw [Lib.cell_of_heap z4]; rfl
          have a3 : w4.cell? ⟨V, 3, none⟩ = some (.slice q (es.length : Nat) cap) := by rw [Lib.cell_of_heap z4]; rfl
          have r0 : w4.cell? ⟨w.heap.size, 0, none⟩ = some (.int .i64 0) := by rw [Lib.cell_of_heap zH4]; rfl
          have r1 : w4.cell? ⟨w.heap.size, 1, none⟩ = some (.int .i64 0) := by rw [Lib.cell_of_heap zH4]; rfl
          have r2 : w4.cell? ⟨w.heap.size, 2, none⟩ = some (.string ⟨#[]⟩) := by rw [Lib.cell_of_heap zH4]; rfl
          have r3 : w4.cell? ⟨w.heap.size, 3, none⟩ = some (.slice none 0 0) := by rw [Lib.cell_of_heap zH4]; rfl
          have rf : ∀ i, w4.frozen? ⟨w.heap.size, i, none⟩ = false := Lib.frozen_of_heap zH4
          have hbr : Below w.heap.size w4 w4 := Below.refl _ _
          have hXR : ¬ (V < w.heap.size) := by omega
          have zH5 : ((((w4.setCell ⟨w.heap.size, 0, none⟩ (.int .i64 5)).setCell ⟨w.heap.size, 1, none⟩ (.int .i64 0)).setCell ⟨w.heap.size, 2, none⟩ (.string ⟨#[]⟩)).setCell ⟨w.heap.size, 3, none⟩ (.slice q (es.length : Nat) cap)).heap[w.heap.size]? = some (.cells #[.int .i64 5, .int .i64 0, .string ⟨#[]⟩, .slice q (es.length : Nat) cap] 41 (0, 0)) := (box_put (box_put (box_put (box_put zH4 _) _) _) _)
          have hb5 := ((((hbr.setCell (p := ⟨w.heap.size, 0, none⟩) (Nat.le_refl _) (.int .i64 5)).setCell (p := ⟨w.heap.size, 1, none⟩) (Nat.le_refl _) (.int .i64 0)).setCell (p := ⟨w.heap.size, 2, none⟩) (Nat.le_refl _) (.string ⟨#[]⟩)).setCell (p := ⟨w.heap.size, 3, none⟩) (Nat.le_refl _) (.slice q (es.length : Nat) cap))
          have hq5 : ListP (fun b => V < b) q cap es ((((w4.setCell ⟨w.heap.size, 0, none⟩ (.int .i64 5)).setCell ⟨w.heap.size, 1, none⟩ (.int .i64 0)).setCell ⟨w.heap.size, 2, none⟩ (.string ⟨#[]⟩)).setCell ⟨w.heap.size, 3, none⟩ (.slice q (es.length : Nat) cap)) := ListP.same hq4 (((((SameB.refl _ w4).set (B := w.heap.size) hXR 0 (.int .i64 5)).set (B := w.heap.size) hXR 1 (.int .i64 0)).set (B := w.heap.size) hXR 2 (.string ⟨#[]⟩)).set (B := w.heap.size) hXR 3 (.slice q (es.length : Nat) cap))
          clear hbr
          go_wp2
          generalize World.setCell _ _ _ = w5 at zH5 hb5 hq5 ⊢
          have s0 : w5.cell? ⟨w.heap.size, 0, none⟩ = some (.int .i64 5) := by rw [Lib.cell_of_heap zH5]; rfl
          have s1 : w5.cell? ⟨w.heap.size, 1, none⟩ = some (.int .i64 0) := by rw [Lib.cell_of_heap zH5]; rfl
          have s2 : w5.cell? ⟨w.heap.size, 2, none⟩ = some (.string ⟨#[]⟩) := by rw [Lib.cell_of_heap zH5]; rfl
          have s3 : w5.cell? ⟨w.heap.size, 3, none⟩ = some (.slice q (es.length : Nat) cap) := by rw [Lib.cell_of_heap zH5]; rfl
          refine bodyPost_ret (v := .agg #[.int .i64 5, .int .i64 0, .string ⟨#[]⟩, .slice q (es.length : Nat) cap]) (by simp [results, Tryz.results63, go_sem, s0, s1, s2, s3]) rfl ⟨⟨q, cap, rfl, hq5.mono fun b _ hb => by omega⟩, hk4.then_low hb5 (Nat.le_refl _), rq_below hrd4 hb5 hR⟩
    · have hr' := hr.out.symm.trans (bodyR_text h1 h5 (.inr rfl))
      clear hr
      subst hr'
      have k1 : (k == 1) = false := by simp; omega
      have k2 : (k == 2) = false := by simp; omega
      have k5 : (k == 5) = false := by simp; omega
      have n1 : ¬ k = 1 := by omega
      have n2 : ¬ k = 2 := by omega
      clear h1
      have hC := Lib.hid (Wi.refRText_any 200 hrd2)
      go_upto_region 13 with (go_at_call 62; refine hC.out.mono ?_; rintro en w3 ⟨rfl, hk3, hrd3⟩; have z3 := (hk3.block V hVs (by omega)).trans z2; have v0 : w3.cell? ⟨V, 0, none⟩ = some (.int .i64 k) := (by rw [Lib.cell_of_heap z3]; rfl); have v1 : w3.cell? ⟨V, 1, none⟩ = some (.int .i64 0) := (by rw [Lib.cell_of_heap z3]; rfl); have v2 : w3.cell? ⟨V, 2, none⟩ = some (.string ⟨#[]⟩) := (by rw [Lib.cell_of_heap z3]; rfl); have v3 : w3.cell? ⟨V, 3, none⟩ = some (.slice none 0 0) := (by rw [Lib.cell_of_heap z3]; rfl); have vf : ∀ i, w3.frozen? ⟨V, i, none⟩ = false := Lib.frozen_of_heap z3)
      have z4 : (w3.setCell ⟨V, 2, none⟩ (.string (Wi.textR 200 l1 e1).1)).heap[V]? = some (.cells #[.int .i64 k, .int .i64 0, .string (Wi.textR 200 l1 e1).1, .slice none 0 0] 41 (0, 0)) := box_put z3 _
      have zH4 : (w3.setCell ⟨V, 2, none⟩ (.string (Wi.textR 200 l1 e1).1)).heap[w.heap.size]? = some (.cells #[.int .i64 0, .int .i64 0, .string ⟨#[]⟩, .slice none 0 0] 41 (0, 0)) := by
        rw [Below.heap_setCell _ _ _ _ (by show w.heap.size ≠ V; omega)]
        exact (hk3.block w.heap.size (by omega) (by omega)).trans zH2
      have hb4 : Below (w.heap.size + 1) w3 (w3.setCell ⟨V, 2, none⟩ (.string (Wi.textR 200 l1 e1).1)) := (Below.refl _ w3).setCell (p := ⟨V, 2, none⟩) (by show w.heap.size + 1 ≤ V; omega) (.string (Wi.textR 200 l1 e1).1)
      have hk4 : Kept Q w (w3.setCell ⟨V, 2, none⟩ (.string (Wi.textR 200 l1 e1).1)) := (hk2.trans hk3).then_low hb4 (by omega)
      have hrd4 := rq_below hrd3 hb4 (by omega : Q < w.heap.size + 1)
      generalize (w3.setCell ⟨V, 2, none⟩ (.string (Wi.textR 200 l1 e1).1)) = w4 at z4 zH4 hb4 hk4 hrd4 ⊢
      clear v0 v1 v2 v3 vf z3 hk3 hrd3 hC hb4 c0
      have a0 : w4.cell? ⟨V, 0, none⟩ = some (.int .i64 k) := by rw [Lib.cell_of_heap z4]; rfl
      have a1 : w4.cell? ⟨V, 1, none⟩ = some (.int .i64 0) := by rw [Lib.cell_of_heap z4]; rfl
      have a2 : w4.cell? ⟨V, 2, none⟩ = some (.string (Wi.textR 200 l1 e1).1) := by rw [Lib.cell_of_heap z4]; rfl
      have a3 : w4.cell? ⟨V, 3, none⟩ = some (.slice none 0 0) := by rw [Lib.cell_of_heap z4]; rfl
      have r0 : w4.cell? ⟨w.heap.size, 0, none⟩ = some (.int .i64 0) := by rw [Lib.cell_of_heap zH4]; rfl
      have r1 : w4.cell? ⟨w.heap.size, 1, none⟩ = some (.int .i64 0) := by rw [Lib.cell_of_heap zH4]; rfl
      have r2 : w4.cell? ⟨w.heap.size, 2, none⟩ = some (.string ⟨#[]⟩) := by rw [Lib.cell_of_heap zH4]; rfl
      have r3 : w4.cell? ⟨w.heap.size, 3, none⟩ = some (.slice none 0 0) := by rw [Lib.cell_of_heap zH4]; rfl
      have rf : ∀ i, w4.frozen? ⟨w.heap.size, i, none⟩ = false := Lib.frozen_of_heap zH4
      have hbr : Below w.heap.size w4 w4 := Below.refl _ _
      have hXR : ¬ (V < w.heap.size) := by omega
      have zH5 : ((((w4.setCell ⟨w.heap.size, 0, none⟩ (.int .i64 k)).setCell ⟨w.heap.size, 1, none⟩ (.int .i64 0)).setCell ⟨w.heap.size, 2, none⟩ (.string (Wi.textR 200 l1 e1).1)).setCell ⟨w.heap.size, 3, none⟩ (.slice none 0 0)).heap[w.heap.size]? = some (.cells #[.int .i64 k, .int .i64 0, .string (Wi.textR 200 l1 e1).1, .slice none 0 0] 41 (0, 0)) := (box_put (box_put (box_put (box_put zH4 _) _) _) _)
      have hb5 := ((((hbr.setCell (p := ⟨w.heap.size, 0, none⟩) (Nat.le_refl _) (.int .i64 k)).setCell (p := ⟨w.heap.size, 1, none⟩) (Nat.le_refl _) (.int .i64 0)).setCell (p := ⟨w.heap.size, 2, none⟩) (Nat.le_refl _) (.string (Wi.textR 200 l1 e1).1)).setCell (p := ⟨w.heap.size, 3, none⟩) (Nat.le_refl _) (.slice none 0 0))
      have hq5 : ListP (fun b => V < b) none 0 [] ((((w4.setCell ⟨w.heap.size, 0, none⟩ (.int .i64 k)).setCell ⟨w.heap.size, 1, none⟩ (.int .i64 0)).setCell ⟨w.heap.size, 2, none⟩ (.string (Wi.textR 200 l1 e1).1)).setCell ⟨w.heap.size, 3, none⟩ (.slice none 0 0)) := ListP.same (⟨fun _ => rfl, Nat.zero_le _, fun i hi => by simp at hi⟩ : ListP (fun b => V < b) none 0 [] w4) (((((SameB.refl _ w4).set (B := w.heap.size) hXR 0 (.int .i64 k)).set (B := w.heap.size) hXR 1 (.int .i64 0)).set (B := w.heap.size) hXR 2 (.string (Wi.textR 200 l1 e1).1)).set (B := w.heap.size) hXR 3 (.slice none 0 0))
      clear hbr
      go_wp2
      generalize World.setCell _ _ _ = w5 at zH5 hb5 hq5 ⊢
      have s0 : w5.cell? ⟨w.heap.size, 0, none⟩ = some (.int .i64 k) := by rw [Lib.cell_of_heap zH5]; rfl
      have s1 : w5.cell? ⟨w.heap.size, 1, none⟩ = some (.int .i64 0) := by rw [Lib.cell_of_heap zH5]; rfl
      have s2 : w5.cell? ⟨w.heap.size, 2, none⟩ = some (.string (Wi.textR 200 l1 e1).1) := by rw [Lib.cell_of_heap zH5]; rfl
      have s3 : w5.cell? ⟨w.heap.size, 3, none⟩ = some (.slice none 0 0) := by rw [Lib.cell_of_heap zH5]; rfl
      refine bodyPost_ret (v := .agg #[.int .i64 k, .int .i64 0, .string (Wi.textR 200 l1 e1).1, .slice none 0 0]) (by simp [results, Tryz.results63, go_sem, s0, s1, s2, s3]) rfl ⟨⟨none, 0, rfl, hq5.mono fun b _ hb => by omega⟩, hk4.then_low hb5 (Nat.le_refl _), rq_below hrd4 hb5 hR⟩
end Go.Proofs.YtcbnefeedoabeaaGreatDoor
/- The document's reading of a subject. -/
namespace Go.Proofs.YtcbnefeedoabeaaGreatDoor
open Go Go.RowKit

theorem bin_low {a : Option Addr} {l : List UInt8} {w : World} (h : Wi.BytesAre a l w) : Wi.BIn 0 w.heap.size a l w := ⟨Nat.le_refl _, fun i hi => by
  obtain ⟨b, off, h1, h2, h3⟩ := h i hi
  exact ⟨b, off, h1, Nat.zero_le _, h2, h3⟩⟩
/-- What the loop over a context's attributes holds. -/
structure InQ (n : Nat) (l1 : List UInt8) (e1 : Int) (kd ky : ByteArray) (X B hi Q : Nat) (w : World) (i : Nat) (es : List AEl) (v : Value) (wr : World) : Prop where
  row : GRow eltA (fun b => B ≤ b) es B v wr
  len : es.length = i
  kept : Kept Q w wr
  zX : wr.heap[X]? = some (.cells #[.string kd, .string ky, v] 63 (0, 0))
  rest : ∃ li ei, Wi.Rq li ei hi Q wr ∧ eachR (attrR true) n l1 e1 = (es.map AEl.a ++ (eachR (attrR true) (n - i) li ei).1, (eachR (attrR true) (n - i) li ei).2)
theorem InQ.step {n : Nat} {l1 : List UInt8} {e1 : Int} {kd ky : ByteArray} {X B hi Q : Nat} {w : World} {i : Nat} {es : List AEl} {x : AEl} {w3 w5 : World} {li l2 : List UInt8} {ei e2 : Int} {o : Obj} {g c : Nat}
    (h : eachR (attrR true) n l1 e1 = (es.map AEl.a ++ (eachR (attrR true) (n - i) li ei).1, (eachR (attrR true) (n - i) li ei).2)) (hin : i < n) (hlen : es.length = i) (ha : attrR true li ei = (x.a, l2, e2)) (hrd : Wi.Rq l2 e2 hi Q w3) (hk : Kept Q w w3)
    (hb : Below B (w3.alloc o) w5) (hB : B ≤ w3.heap.size) (hQ : Q < w.heap.size) (hX : w.heap.size ≤ X) (hXB : X < B) (hrow : GRow eltA (fun b => B ≤ b) (es ++ [x]) B (.slice (some ⟨g, 0, none⟩) (es.length + 1 : Nat) c) w5) {v0 : Value}
    (zX : w5.heap[X]? = some (.cells #[.string kd, .string ky, v0] 63 (0, 0))) :
    InQ n l1 e1 kd ky X B hi Q w (i + 1) (es ++ [x]) (.slice (some ⟨g, 0, none⟩) (es.length + 1 : Nat) c) (w5.setCell ⟨X, 2, none⟩ (.slice (some ⟨g, 0, none⟩) (es.length + 1 : Nat) c)) := by
  have hbA := (((Below.refl w3.heap.size w3).alloc (Nat.le_refl _) o).mono hB).trans hb
  have hbS : Below w.heap.size w5 (w5.setCell ⟨X, 2, none⟩ (.slice (some ⟨g, 0, none⟩) (es.length + 1 : Nat) c)) := (Below.refl _ w5).setCell (p := ⟨X, 2, none⟩) hX _
  have hbT : Below w.heap.size w3 (w5.setCell ⟨X, 2, none⟩ (.slice (some ⟨g, 0, none⟩) (es.length + 1 : Nat) c)) := (hbA.mono (by omega)).trans hbS
  refine ⟨hrow.set hXB (fun b hb => by omega) 2 _, by simp [hlen], hk.then_low hbT (Nat.le_refl _), box_put zX _, l2, e2, rq_below hrd hbT hQ, ?_⟩
  rw [h, show n - i = (n - (i + 1)) + 1 by omega, eachR_succ, ha, List.map_append, List.append_assoc]
  rfl
/-- What the loop over the contexts holds. -/
structure OutQ (n : Nat) (l1 : List UInt8) (e1 : Int) (S B hi Q : Nat) (w : World) (i : Nat) (es : List CEl) (v : Value) (wr : World) : Prop where
  row : GRow eltC (fun b => B ≤ b) es B v wr
  len : es.length = i
  below : Below w.heap.size w wr
  zS : wr.heap[S]? = some (.cells #[v] 25 (0, 0))
  zH : wr.heap[w.heap.size]? = some (.cells #[.slice none 0 0] 25 (0, 0))
  rest : ∃ li ei, Wi.Rq li ei hi Q wr ∧ eachR (ctxR true) n l1 e1 = (es.map CEl.x ++ (eachR (ctxR true) (n - i) li ei).1, (eachR (ctxR true) (n - i) li ei).2)
theorem OutQ.step {n : Nat} {l1 : List UInt8} {e1 : Int} {S B hi Q : Nat} {w wo : World} {i : Nat} {es : List CEl} {x : CEl} {w6 w8 : World} {li l2 : List UInt8} {ei e2 : Int} {o : Obj} {v' : Value}
    (h : eachR (ctxR true) n l1 e1 = (es.map CEl.x ++ (eachR (ctxR true) (n - i) li ei).1, (eachR (ctxR true) (n - i) li ei).2)) (hin : i < n) (hlen : es.length = i) (hx : ctxR true li ei = (x.x, l2, e2)) (hrd : Wi.Rq l2 e2 hi Q w6) (hb0 : Below w.heap.size w wo) (hk : Kept Q wo w6)
    (hb : Below B (w6.alloc o) w8) (hB : B ≤ w6.heap.size) (hwQ : w.heap.size < Q) (hQS : Q < S) (hSB : S < B) (_ : B ≤ wo.heap.size) (hrow : GRow eltC (fun b => B ≤ b) (es ++ [x]) B v' w8) {v0 : Value}
    (zS : w8.heap[S]? = some (.cells #[v0] 25 (0, 0))) (zH : w6.heap[w.heap.size]? = some (.cells #[.slice none 0 0] 25 (0, 0))) :
    OutQ n l1 e1 S B hi Q w (i + 1) (es ++ [x]) v' (w8.setCell ⟨S, 0, none⟩ v') := by
  have hbA := (((Below.refl w6.heap.size w6).alloc (Nat.le_refl _) o).mono hB).trans hb
  have hbS : Below S w8 (w8.setCell ⟨S, 0, none⟩ v') := (Below.refl _ w8).setCell (p := ⟨S, 0, none⟩) (Nat.le_refl _) _
  have hbT : Below S w6 (w8.setCell ⟨S, 0, none⟩ v') := (hbA.mono (by omega)).trans hbS
  have hbK : Below w.heap.size wo w6 := hk.below (by omega) (by have := hb0.size; omega)
  refine ⟨hrow.set hSB (fun b hb => by omega) 0 _, by simp [hlen], (hb0.trans hbK).trans (hbT.mono (by omega)), box_put zS _, ?_, l2, e2, rq_below hrd hbT hQS, ?_⟩
  · exact (hbT.block w.heap.size (by omega)).trans zH
  · rw [h, show n - i = (n - (i + 1)) + 1 by omega, eachR_succ, hx, List.map_append, List.append_assoc]
    rfl
set_option linter.unusedSimpArgs false in
set_option linter.unusedVariables false in
set_option maxHeartbeats 8000000 in
set_option maxRecDepth 100000 in
theorem refDecode_any {a0 : Option Addr} {l : List UInt8} {cap : Nat} {w : World} (E : Env w) (hl : l.length ≤ 1000000) (hS : Wi.Src a0 l cap w) :
    Calls Tryz.prog 27 #[.slice a0 (l.length : Nat) cap] w fun en w' => (∃ (q : Option Addr) (d : Nat), en = .returned (.tuple #[.agg #[.slice q ((decR true l).1.length : Nat) d], .int .i64 (decR true l).2]) ∧ CtxsP (fun b => w.heap.size ≤ b) q d (decR true l).1 w') ∧ Below w.heap.size w w' := by
  have hb0 := (Below.refl w.heap.size w).alloc (Nat.le_refl _) (.cells #[.slice none 0 0] 25)
  have z0 := heap_alloc_new w (.cells #[.slice none 0 0] 25)
  have hs0 : (w.alloc (.cells #[.slice none 0 0] 25)).heap.size = w.heap.size + 1 := by simp
  have hS0 := hS.below (Nat.le_refl _) hb0
  have hN := Wi.refNew_any hl hS0.le (bin_low hS0.bytes)
  unfold Wi.NewQ at hN
  have hti := subjR_tiny true l
  have hdr : decR true l = if Wi.endR (subjR true l).2.1 (subjR true l).2.2 = 0 ∧ subjE (subjR true l).1 = 0 then ((subjR true l).1, 0) else ([], 1) := rfl
  obtain ⟨r, hr⟩ : ∃ r, subjR true l = r := ⟨_, rfl⟩
  rw [hr] at hdr hti
  obtain ⟨L, l9, e9⟩ := r
  simp only at hdr hti
  obtain ⟨dd, hdd⟩ : ∃ dd, decR true l = dd := ⟨_, rfl⟩
  rw [hdd] at hdr ⊢
  replace hdr := Lib.hid hdr
  replace hN := Lib.hid hN
  have hr2 : eachR (ctxR true) (Wi.atR 4 5 l 0).1 (Wi.atR 4 5 l 0).2.1 (Wi.atR 4 5 l 0).2.2 = (L, l9, e9) := hr
  clear hdd hS hS0 hr
  go_enter Tryz.func27, Tryz.ntmps27
  go_upto_region 1 with (fail)
  generalize w.alloc (.cells #[.slice none 0 0] 25) = w0 at hb0 z0 hs0 hN ⊢
  have hN' := hN.out
  rw [hs0] at hN'
  replace hN' := Lib.hid hN'
  clear hN
  go_upto_region 2 with (go_at_call 60; refine hN'.out.mono ?_; rintro en w1 ⟨rfl, hrd1, hb1⟩)
  have hs1 := hb1.size
  have hRw := rq_lt hrd1
  have z1 := (hb1.block w.heap.size (by omega)).trans z0
  have hQ0 : w.heap.size < w.heap.size + 1 := by omega
  generalize hhi : w.heap.size + 1 = hi at hrd1 hb1 hs1 hRw hQ0 ⊢
  have hb2 := (Below.refl w1.heap.size w1).alloc (Nat.le_refl _) (.cells #[.slice none 0 0] 25)
  have z2 := heap_alloc_new w1 (.cells #[.slice none 0 0] 25)
  go_upto_region 3 with (fail)
  generalize w1.alloc (.cells #[.slice none 0 0] 25) = w2 at hb2 z2 ⊢
  have hS2 : w1.heap.size < w2.heap.size := (Array.getElem?_eq_some_iff.1 z2).1
  have hrd2 := rq_below hrd1 hb2 (rq_lt hrd1)
  have zH2 := (hb2.block w.heap.size (by omega)).trans z1
  have hB2 : Below w.heap.size w w2 := (hb0.trans (hb1.mono (by omega))).trans (hb2.mono (by omega))
  have hA := Wi.refCount_any 4 hrd2
  unfold Wi.DoneQ at hA
  have hle := atR_le 4 5 l 0 (by omega)
  clear hN' hb0 z0 hb1 z1 hb2 hrd1 hrd2 hs0 hhi
  generalize (Wi.atR 4 5 l 0).2.1 = l3 at hA hr2
  generalize (Wi.atR 4 5 l 0).2.2 = e3 at hA hr2
  generalize (Wi.atR 4 5 l 0).1 = n at hA hle hr2
  have hn : n ≤ 4 := by omega
  clear hle
  replace hA := Lib.hid hA
  replace hr2 := Lib.hid hr2
  go_wp2_with (go_at_call 61; refine hA.out.mono ?_; rintro en w3 ⟨rfl, hk3, hrd3⟩)
  have hs3 := hk3.size
  have hQ2 : hi ≤ w1.heap.size := by omega
  have hst : OutQ n l3 e3 w1.heap.size w2.heap.size hi hi w 0 [] (.slice none 0 0) w3 := ⟨GRow.nil eltC _ _ _, rfl, hB2.trans (hk3.below (by omega) (by have := hB2.size; omega)), (hk3.block w1.heap.size (by omega) (by omega)).trans z2, (hk3.block w.heap.size (by omega) (by omega)).trans zH2, l3, e3, hrd3, rfl⟩
  have hQS : hi < w1.heap.size := hRw
  clear hA hrd3 hk3 z2 zH2 hB2 hRw hs1 hQ2
  generalize w2.heap.size = B at hst hS2 hs3 ⊢
  generalize w1.heap.size = S at hst hS2 hQS ⊢
  go_loopw [7, 8, 9, 10, 11] (fun i _ _ _ _ wr => ∃ m : Nat, m ≤ n ∧ i = .int .i64 m ∧ B ≤ wr.heap.size ∧ ∃ es v, OutQ n l3 e3 S B hi hi w m es v wr) (fun i _ _ _ _ _ => n - (intOf i).toNat)
  case atStart => exact ⟨0, Nat.zero_le _, rfl, hs3, _, _, hst⟩
  case round =>
    obtain ⟨m, hm, rfl, hBs, es, v, hC⟩ := hrel
    clear hst hs3
    by_cases hlt : m < n
    · have hmI : (m : Int) < (n : Int) := by omega
      obtain ⟨li, ei, hrd, heq⟩ := hC.rest
      have hrow := hC.row
      have hB0 := hC.below
      have zS := hC.zS
      have zH := hC.zH
      have hlen := hC.len
      clear hC
      have hT1 := Wi.refRText_any 32 hrd
      obtain ⟨⟨kd, l4, e4⟩, hx1⟩ : ∃ x, Wi.textR 32 li ei = x := ⟨_, rfl⟩
      obtain ⟨⟨ky, l5, e5⟩, hx2⟩ : ∃ x, Wi.textR 200 l4 e4 = x := ⟨_, rfl⟩
      rw [hx1] at hT1
      unfold Wi.DoneQ at hT1
      simp only at hT1
      have hT2 := fun W (h : Wi.Rq l4 e4 hi hi W) => Wi.refRText_any 200 h
      unfold Wi.DoneQ at hT2
      simp only [hx2] at hT2
      have hctx : ctxR true li ei = (⟨kd, ky, (listR 20 (attrR true) l5 e5).1⟩, (listR 20 (attrR true) l5 e5).2) := by
        unfold ctxR restR
        rw [hx1]
        show (_, _) = _
        rw [show strR l4 e4 = (ky, l5, e5) from hx2]
      unfold listR at hctx
      have hA := fun W (h : Wi.Rq l5 e5 hi hi W) => Wi.refCount_any 20 h
      unfold Wi.DoneQ at hA
      have hle := atR_le 20 5 l5 e5 (by omega)
      generalize (Wi.atR 20 5 l5 e5).2.1 = l6 at hA hctx
      generalize (Wi.atR 20 5 l5 e5).2.2 = e6 at hA hctx
      generalize (Wi.atR 20 5 l5 e5).1 = n2 at hA hctx hle
      have hn2 : n2 ≤ 20 := by omega
      clear hle hx1 hx2
      replace hT1 := Lib.hid hT1
      replace hT2 := Lib.hid hT2
      replace hA := Lib.hid hA
      replace hctx := Lib.hid hctx
      replace heq := Lib.hid heq
      replace hlen := Lib.hid hlen
      go_upto_region 8 with (first | (go_at_call 62; with_reducible refine hT1.out.mono ?_; rintro en w4 ⟨rfl, hk4, hrd4⟩; have hT2' := Lib.hid (hT2.out w4 hrd4)) | (go_at_call 62; with_reducible refine hT2'.out.mono ?_; rintro en w5 ⟨rfl, hk5, hrd5⟩))
      have hk05 := hk4.trans hk5
      clear hT1 hT2 hT2' hk4 hk5 hrd4 hrd
      have hb6 := (Below.refl w5.heap.size w5).alloc (Nat.le_refl _) (.cells #[.string kd, .string ky, .slice none 0 0] 63)
      have z6 := heap_alloc_new w5 (.cells #[.string kd, .string ky, .slice none 0 0] 63)
      generalize w5.alloc (.cells #[.string kd, .string ky, .slice none 0 0] 63) = w6 at hb6 z6 ⊢
      have hXs : w5.heap.size < w6.heap.size := (Array.getElem?_eq_some_iff.1 z6).1
      have hrd6 := rq_below hrd5 hb6 (rq_lt hrd5)
      have hX5 := hk05.size
      have hk06 : Kept hi wr w6 := hk05.then_low hb6 hX5
      have hA6 := Lib.hid (hA.out w6 hrd6)
      go_wp2_with (go_at_call 61; refine hA6.out.mono ?_; rintro en w7 ⟨rfl, hk7, hrd7⟩)
      have hs7 := hk7.size
      have hst : InQ n2 l6 e6 kd ky w5.heap.size w6.heap.size hi hi wr 0 [] (.slice none 0 0) w7 := ⟨GRow.nil eltA _ _ _, rfl, hk06.trans hk7, (hk7.block w5.heap.size hXs (by omega)).trans z6, l6, e6, hrd7, rfl⟩
      clear hA hA6 hrd7 hk7 hrd6 hk06 z6 hb6 hrd5 hk05
      generalize w6.heap.size = B6 at hst hXs hs7 ⊢
      generalize w5.heap.size = X at hst hXs hX5 ⊢
      obtain ⟨wo, hwo⟩ : ∃ wo, wr = wo := ⟨_, rfl⟩
      rw [hwo] at hst hX5 hrow hB0 zS zH hBs
      clear hwo
      go_loopw [10, 11] (fun i _ wq => ∃ j : Nat, j ≤ n2 ∧ i = .int .i64 j ∧ B6 ≤ wq.heap.size ∧ ∃ fs v, InQ n2 l6 e6 kd ky X B6 hi hi wo j fs v wq) (fun i _ _ => n2 - (intOf i).toNat)
      case atStart => exact ⟨0, Nat.zero_le _, rfl, hs7, _, _, hst⟩
      case round =>
        obtain ⟨j, hj, rfl, hB6, fs, va, hI⟩ := hrel
        clear hst hs7
        by_cases hjt : j < n2
        · have hjI : (j : Int) < (n2 : Int) := by omega
          obtain ⟨lj, ej, hrdj, heqj⟩ := hI.rest
          have hrowI := hI.row
          have hkI := hI.kept
          have zXI := hI.zX
          have hlenI := hI.len
          clear hI
          have hT1 := Wi.refRText_any 32 hrdj
          obtain ⟨⟨nm, l7, e7⟩, hx1⟩ : ∃ x, Wi.textR 32 lj ej = x := ⟨_, rfl⟩
          obtain ⟨⟨⟨k, n', t, L'⟩, l8, e8⟩, hx2⟩ : ∃ x, valR true l7 e7 = x := ⟨_, rfl⟩
          rw [hx1] at hT1
          unfold Wi.DoneQ at hT1
          simp only at hT1
          have hV := fun W (h : Wi.Rq l7 e7 hi hi W) => refValue_any h
          simp only [hx2] at hV
          have hat : attrR true lj ej = (⟨nm, ⟨k, n', t, L'⟩⟩, l8, e8) := by
            unfold attrR
            rw [hx1]
            show (_, _) = _
            rw [hx2]
          clear hx1 hx2
          replace hT1 := Lib.hid hT1
          replace hV := Lib.hid hV
          replace hat := Lib.hid hat
          replace heqj := Lib.hid heqj
          replace hlenI := Lib.hid hlenI
          go_upto_region 13 with (go_at_call 62; refine hT1.out.mono ?_; rintro en w4 ⟨rfl, hk4, hrd4⟩)
          have hs4 := hk4.size
          have hd := (Below.refl w4.heap.size w4).drew
          have hrdD := hrd4.drew
          have hown := hrowI.lt
          have hQo : hi < wo.heap.size := by omega
          have hrowD := (hrowI.kept hk4 (by omega) (fun b hb => by omega)).below hd
          have zXD : w4.drew.heap[X]? = some (.cells #[.string kd, .string ky, va] 63 (0, 0)) := (hk4.block X (by omega) (by omega)).trans zXI
          have hkD := (hkI.trans hk4).drew
          have hBd : B6 ≤ w4.drew.heap.size := Nat.le_trans hB6 hs4
          have hownD : ∀ b, va.ownBlock = some b → b < w4.drew.heap.size := fun b hb => Nat.lt_of_lt_of_le (hown b hb).2 hs4
          have hlen2 : fs.length + 1 ≤ 1000 := by have := hlenI.out; omega
          obtain ⟨vA, vC, rfl, -, -, -, -⟩ := hrowD.form
          clear hd hk4 hrd4 hT1 hrowI zXI hkI hrdj hown hs4
          refine wp_region_held_drew (S := fun _ => True) (by kernel_rfl) trivial (fun hHeld => ?_)
          generalize w4.drew = wd at hrdD hrowD zXD hkD hBd hownD ⊢
          have cD : wd.cell? ⟨X, 2, none⟩ = some (.slice vA fs.length vC) := by rw [Lib.cell_of_heap zXD]; rfl
          have hVd := Lib.hid (hV.out wd hrdD)
          refine wpAnyH_take (i := 0) (v := ?_) rfl (by kernel_rfl) (by kernel_rfl) (by kernel_rfl) (fun _ _ _ h => h) (Or.inl ⟨by rfl, ?_⟩) hHeld ?_
          rotate_left
          · intro w' hSw
            go_simp
            try with_reducible rfl
          try simp only [List.getElem_toArray, List.getElem_cons_succ, List.getElem_cons_zero, Act.put, List.setIfInBounds_toArray, List.set_cons_zero, List.set_cons_succ]
          refine wpAnyH_take (i := 2) (v := ?_) rfl (by kernel_rfl) (by kernel_rfl) (by kernel_rfl) (fun _ _ _ h => h) (Or.inl ⟨by rfl, ?_⟩) hHeld ?_
          rotate_left
          · intro w' hSw
            go_simp
            try with_reducible rfl
          try simp only [List.getElem_toArray, List.getElem_cons_succ, List.getElem_cons_zero, Act.put, List.setIfInBounds_toArray, List.set_cons_zero, List.set_cons_succ]
          refine wpAnyH_take (i := 3) (v := ?_) rfl (by kernel_rfl) (by kernel_rfl) (by kernel_rfl) (fun _ _ _ h => h) (Or.inl ⟨by rfl, ?_⟩) hHeld ?_
          rotate_left
          · intro w' hSw
            go_simp
            try with_reducible rfl
          try simp only [List.getElem_toArray, List.getElem_cons_succ, List.getElem_cons_zero, Act.put, List.setIfInBounds_toArray, List.set_cons_zero, List.set_cons_succ]
          refine wpAnyH_ready (rs := [1, 4]) (by kernel_rfl) (by simp) ?_
          refine AllReadyH.cons rfl (fun K hK => ?_) (AllReadyH.cons rfl (fun K hK => ?_) AllReadyH.nil)
          · go_simp
            refine hK.out _ _ trivial (fun _ => ?_)
            clear hK K
            try simp only [List.getElem_toArray, List.getElem_cons_succ, List.getElem_cons_zero, Act.put, List.setIfInBounds_toArray, List.set_cons_zero, List.set_cons_succ]
            refine wpAnyH_ready (rs := [4]) (by kernel_rfl) (by simp) ?_
            refine AllReadyH.cons rfl (fun K hK => ?_) AllReadyH.nil
            go_simp
            go_at_call 63
            refine hVd.out.mono ?_
            rintro en w3 ⟨⟨q, d, rfl, hq⟩, hk3, hrd3⟩
            unfold Val.agg
            have hs3 := hk3.size
            have z3 := (hk3.block X (by omega) (by omega)).trans zXD
            have c3 : w3.cell? ⟨X, 2, none⟩ = some (.slice vA fs.length vC) := by rw [Lib.cell_of_heap z3]; rfl
            have hrow3 := hrowD.kept hk3 (by omega) (fun b hb => by omega)
            have hal := fun o => (Below.refl w3.heap.size w3).alloc (Nat.le_refl _) o
            have hX3 : X < w3.heap.size := by omega
            have c4 : (w3.alloc (.cells #[.string nm, .int .i64 k, .int .i64 n', .string t, .slice q (L'.length : Nat) d] 72)).cell? ⟨X, 2, none⟩ = some (.slice vA fs.length vC) := ((hal _).cell (p := ⟨X, 2, none⟩) hX3).trans c3
            refine hK.out _ _ trivial (fun _ => ?_)
            clear hK K
            try simp only [List.getElem_toArray, List.getElem_cons_succ, List.getElem_cons_zero, Act.put, List.setIfInBounds_toArray, List.set_cons_zero, List.set_cons_succ]
            refine wpAnyH_take (i := 5) (v := ?_) rfl (by kernel_rfl) (by kernel_rfl) (by kernel_rfl) (fun _ _ _ h => h) (Or.inl ⟨by rfl, ?_⟩) hHeld ?_
            rotate_left
            · intro w' hSw
              go_simp
              try with_reducible rfl
            try simp only [List.getElem_toArray, List.getElem_cons_succ, List.getElem_cons_zero, Act.put, List.setIfInBounds_toArray, List.set_cons_zero, List.set_cons_succ]
            refine wpAnyH_ready (rs := [6]) (by kernel_rfl) (by simp) ?_
            refine AllReadyH.cons rfl (fun K hK => ?_) AllReadyH.nil
            go_simp
            refine hK.out _ _ trivial (fun _ => ?_)
            clear hK K
            try simp only [List.getElem_toArray, List.getElem_cons_succ, List.getElem_cons_zero, Act.put, List.setIfInBounds_toArray, List.set_cons_zero, List.set_cons_succ]
            refine wpAnyH_ready (rs := [7]) (by kernel_rfl) (by simp) ?_
            refine AllReadyH.cons rfl (fun K hK => ?_) AllReadyH.nil
            refine step_grow eltA (by rfl) _ _ (by rfl) (hrow3.below (hal _)) (by rfl) [⟨⟨nm, ⟨k, n', t, L'⟩⟩, q, d⟩] ⟨w3.heap.size, 0, none⟩ 1 1 (by rfl) (by rfl) (news_one eltA ⟨⟨nm, ⟨k, n', t, L'⟩⟩, q, d⟩ w3) (fun e he => by obtain rfl := List.mem_singleton.1 he; exact eltA.same (eltA.mono (Q := fun b => B6 ≤ b ∧ (Value.slice vA fs.length vC).ownBlock ≠ some b) (x := ⟨⟨nm, ⟨k, n', t, L'⟩⟩, q, d⟩) hq fun b _ hb => ⟨Nat.le_trans hBd hb, fun e => absurd (hownD b e) (Nat.not_lt.2 hb)⟩) (SameB.of_below (hal _))) (by decide) hlen2 (Nat.le_trans (by omega) (hal _).size) ?_
            intro g5 c5 w5 hrow5 hgr5 hlies5 hb5
            refine hK.out _ _ trivial (fun _ => ?_)
            clear hK K
            try simp only [List.getElem_toArray, List.getElem_cons_succ, List.getElem_cons_zero, Act.put, List.setIfInBounds_toArray, List.set_cons_zero, List.set_cons_succ]
            have z5 := (hb5.block X hXs).trans (((hal _).block X hX3).trans z3)
            have k5 : w5.cell? ⟨X, 2, none⟩ = some (.slice vA fs.length vC) := by rw [Lib.cell_of_heap z5]; rfl
            have zf5 : ∀ i, w5.frozen? ⟨X, i, none⟩ = false := Lib.frozen_of_heap z5
            refine wpAnyH_take (i := 8) (v := ?_) rfl (by kernel_rfl) (by kernel_rfl) (by kernel_rfl) (fun _ _ _ h => h) (Or.inl ⟨by rfl, ?_⟩) hHeld ?_
            rotate_left
            · intro w' hSw
              go_simp
              try with_reducible rfl
            try simp only [List.getElem_toArray, List.getElem_cons_succ, List.getElem_cons_zero, Act.put, List.setIfInBounds_toArray, List.set_cons_zero, List.set_cons_succ]
            refine wpAnyH_ready (rs := [9]) (by kernel_rfl) (by simp) ?_
            refine AllReadyH.cons rfl (fun K hK => ?_) AllReadyH.nil
            go_simp
            refine hK.out _ _ trivial (fun _ => ?_)
            clear hK K
            try simp only [List.getElem_toArray, List.getElem_cons_succ, List.getElem_cons_zero, Act.put, List.setIfInBounds_toArray, List.set_cons_zero, List.set_cons_succ]
            refine wpAnyH_done (by kernel_rfl) ?_ _
            have hst := InQ.step heqj.out hjt hlenI.out hat.out hrd3 (hkD.trans hk3) hb5 (by omega) hQo hX5 hXs hrow5 z5
            have hBs5 := hb5.size
            have hBs6 : B6 ≤ (w5.setCell ⟨X, 2, none⟩ (.slice (some ⟨g5, 0, none⟩) (fs.length + 1 : Nat) c5)).heap.size := by have := (hal (.cells #[.string nm, .int .i64 k, .int .i64 n', .string t, .slice q (L'.length : Nat) d] 72)).size; simp; omega
            replace hst := Lib.hid hst
            go_wp2
            go_roundw
            case rel => exact ⟨j + 1, by omega, by go_num, by simpa using hBs6, _, _, hst.out⟩
            case measure => simp [intOf]; omega
          · go_simp
            go_at_call 63
            refine hVd.out.mono ?_
            rintro en w3 ⟨⟨q, d, rfl, hq⟩, hk3, hrd3⟩
            unfold Val.agg
            have hs3 := hk3.size
            have z3 := (hk3.block X (by omega) (by omega)).trans zXD
            have c3 : w3.cell? ⟨X, 2, none⟩ = some (.slice vA fs.length vC) := by rw [Lib.cell_of_heap z3]; rfl
            have hrow3 := hrowD.kept hk3 (by omega) (fun b hb => by omega)
            have hal := fun o => (Below.refl w3.heap.size w3).alloc (Nat.le_refl _) o
            have hX3 : X < w3.heap.size := by omega
            have c4 : (w3.alloc (.cells #[.string nm, .int .i64 k, .int .i64 n', .string t, .slice q (L'.length : Nat) d] 72)).cell? ⟨X, 2, none⟩ = some (.slice vA fs.length vC) := ((hal _).cell (p := ⟨X, 2, none⟩) hX3).trans c3
            refine hK.out _ _ trivial (fun _ => ?_)
            clear hK K
            try simp only [List.getElem_toArray, List.getElem_cons_succ, List.getElem_cons_zero, Act.put, List.setIfInBounds_toArray, List.set_cons_zero, List.set_cons_succ]
            refine wpAnyH_take (i := 5) (v := ?_) rfl (by kernel_rfl) (by kernel_rfl) (by kernel_rfl) (fun _ _ _ h => h) (Or.inl ⟨by rfl, ?_⟩) hHeld ?_
            rotate_left
            · intro w' hSw
              go_simp
              try with_reducible rfl
            try simp only [List.getElem_toArray, List.getElem_cons_succ, List.getElem_cons_zero, Act.put, List.setIfInBounds_toArray, List.set_cons_zero, List.set_cons_succ]
            refine wpAnyH_ready (rs := [1, 6]) (by kernel_rfl) (by simp) ?_
            refine AllReadyH.cons rfl (fun K hK => ?_) (AllReadyH.cons rfl (fun K hK => ?_) AllReadyH.nil)
            · go_simp
              refine hK.out _ _ trivial (fun _ => ?_)
              clear hK K
              try simp only [List.getElem_toArray, List.getElem_cons_succ, List.getElem_cons_zero, Act.put, List.setIfInBounds_toArray, List.set_cons_zero, List.set_cons_succ]
              refine wpAnyH_ready (rs := [6]) (by kernel_rfl) (by simp) ?_
              refine AllReadyH.cons rfl (fun K hK => ?_) AllReadyH.nil
              go_simp
              refine hK.out _ _ trivial (fun _ => ?_)
              clear hK K
              try simp only [List.getElem_toArray, List.getElem_cons_succ, List.getElem_cons_zero, Act.put, List.setIfInBounds_toArray, List.set_cons_zero, List.set_cons_succ]
              refine wpAnyH_ready (rs := [7]) (by kernel_rfl) (by simp) ?_
              refine AllReadyH.cons rfl (fun K hK => ?_) AllReadyH.nil
              refine step_grow eltA (by rfl) _ _ (by rfl) (hrow3.below (hal _)) (by rfl) [⟨⟨nm, ⟨k, n', t, L'⟩⟩, q, d⟩] ⟨w3.heap.size, 0, none⟩ 1 1 (by rfl) (by rfl) (news_one eltA ⟨⟨nm, ⟨k, n', t, L'⟩⟩, q, d⟩ w3) (fun e he => by obtain rfl := List.mem_singleton.1 he; exact eltA.same (eltA.mono (Q := fun b => B6 ≤ b ∧ (Value.slice vA fs.length vC).ownBlock ≠ some b) (x := ⟨⟨nm, ⟨k, n', t, L'⟩⟩, q, d⟩) hq fun b _ hb => ⟨Nat.le_trans hBd hb, fun e => absurd (hownD b e) (Nat.not_lt.2 hb)⟩) (SameB.of_below (hal _))) (by decide) hlen2 (Nat.le_trans (by omega) (hal _).size) ?_
              intro g5 c5 w5 hrow5 hgr5 hlies5 hb5
              refine hK.out _ _ trivial (fun _ => ?_)
              clear hK K
              try simp only [List.getElem_toArray, List.getElem_cons_succ, List.getElem_cons_zero, Act.put, List.setIfInBounds_toArray, List.set_cons_zero, List.set_cons_succ]
              have z5 := (hb5.block X hXs).trans (((hal _).block X hX3).trans z3)
              have k5 : w5.cell? ⟨X, 2, none⟩ = some (.slice vA fs.length vC) := by rw [Lib.cell_of_heap z5]; rfl
              have zf5 : ∀ i, w5.frozen? ⟨X, i, none⟩ = false := Lib.frozen_of_heap z5
              refine wpAnyH_take (i := 8) (v := ?_) rfl (by kernel_rfl) (by kernel_rfl) (by kernel_rfl) (fun _ _ _ h => h) (Or.inl ⟨by rfl, ?_⟩) hHeld ?_
              rotate_left
              · intro w' hSw
                go_simp
                try with_reducible rfl
              try simp only [List.getElem_toArray, List.getElem_cons_succ, List.getElem_cons_zero, Act.put, List.setIfInBounds_toArray, List.set_cons_zero, List.set_cons_succ]
              refine wpAnyH_ready (rs := [9]) (by kernel_rfl) (by simp) ?_
              refine AllReadyH.cons rfl (fun K hK => ?_) AllReadyH.nil
              go_simp
              refine hK.out _ _ trivial (fun _ => ?_)
              clear hK K
              try simp only [List.getElem_toArray, List.getElem_cons_succ, List.getElem_cons_zero, Act.put, List.setIfInBounds_toArray, List.set_cons_zero, List.set_cons_succ]
              refine wpAnyH_done (by kernel_rfl) ?_ _
              have hst := InQ.step heqj.out hjt hlenI.out hat.out hrd3 (hkD.trans hk3) hb5 (by omega) hQo hX5 hXs hrow5 z5
              have hBs5 := hb5.size
              have hBs6 : B6 ≤ (w5.setCell ⟨X, 2, none⟩ (.slice (some ⟨g5, 0, none⟩) (fs.length + 1 : Nat) c5)).heap.size := by have := (hal (.cells #[.string nm, .int .i64 k, .int .i64 n', .string t, .slice q (L'.length : Nat) d] 72)).size; simp; omega
              replace hst := Lib.hid hst
              go_wp2
              go_roundw
              case rel => exact ⟨j + 1, by omega, by go_num, by simpa using hBs6, _, _, hst.out⟩
              case measure => simp [intOf]; omega
            · go_simp
              refine hK.out _ _ trivial (fun _ => ?_)
              clear hK K
              try simp only [List.getElem_toArray, List.getElem_cons_succ, List.getElem_cons_zero, Act.put, List.setIfInBounds_toArray, List.set_cons_zero, List.set_cons_succ]
              refine wpAnyH_ready (rs := [1]) (by kernel_rfl) (by simp) ?_
              refine AllReadyH.cons rfl (fun K hK => ?_) AllReadyH.nil
              go_simp
              refine hK.out _ _ trivial (fun _ => ?_)
              clear hK K
              try simp only [List.getElem_toArray, List.getElem_cons_succ, List.getElem_cons_zero, Act.put, List.setIfInBounds_toArray, List.set_cons_zero, List.set_cons_succ]
              refine wpAnyH_ready (rs := [7]) (by kernel_rfl) (by simp) ?_
              refine AllReadyH.cons rfl (fun K hK => ?_) AllReadyH.nil
              refine step_grow eltA (by rfl) _ _ (by rfl) (hrow3.below (hal _)) (by rfl) [⟨⟨nm, ⟨k, n', t, L'⟩⟩, q, d⟩] ⟨w3.heap.size, 0, none⟩ 1 1 (by rfl) (by rfl) (news_one eltA ⟨⟨nm, ⟨k, n', t, L'⟩⟩, q, d⟩ w3) (fun e he => by obtain rfl := List.mem_singleton.1 he; exact eltA.same (eltA.mono (Q := fun b => B6 ≤ b ∧ (Value.slice vA fs.length vC).ownBlock ≠ some b) (x := ⟨⟨nm, ⟨k, n', t, L'⟩⟩, q, d⟩) hq fun b _ hb => ⟨Nat.le_trans hBd hb, fun e => absurd (hownD b e) (Nat.not_lt.2 hb)⟩) (SameB.of_below (hal _))) (by decide) hlen2 (Nat.le_trans (by omega) (hal _).size) ?_
              intro g5 c5 w5 hrow5 hgr5 hlies5 hb5
              refine hK.out _ _ trivial (fun _ => ?_)
              clear hK K
              try simp only [List.getElem_toArray, List.getElem_cons_succ, List.getElem_cons_zero, Act.put, List.setIfInBounds_toArray, List.set_cons_zero, List.set_cons_succ]
              have z5 := (hb5.block X hXs).trans (((hal _).block X hX3).trans z3)
              have k5 : w5.cell? ⟨X, 2, none⟩ = some (.slice vA fs.length vC) := by rw [Lib.cell_of_heap z5]; rfl
              have zf5 : ∀ i, w5.frozen? ⟨X, i, none⟩ = false := Lib.frozen_of_heap z5
              refine wpAnyH_take (i := 8) (v := ?_) rfl (by kernel_rfl) (by kernel_rfl) (by kernel_rfl) (fun _ _ _ h => h) (Or.inl ⟨by rfl, ?_⟩) hHeld ?_
              rotate_left
              · intro w' hSw
                go_simp
                try with_reducible rfl
              try simp only [List.getElem_toArray, List.getElem_cons_succ, List.getElem_cons_zero, Act.put, List.setIfInBounds_toArray, List.set_cons_zero, List.set_cons_succ]
              refine wpAnyH_ready (rs := [9]) (by kernel_rfl) (by simp) ?_
              refine AllReadyH.cons rfl (fun K hK => ?_) AllReadyH.nil
              go_simp
              refine hK.out _ _ trivial (fun _ => ?_)
              clear hK K
              try simp only [List.getElem_toArray, List.getElem_cons_succ, List.getElem_cons_zero, Act.put, List.setIfInBounds_toArray, List.set_cons_zero, List.set_cons_succ]
              refine wpAnyH_done (by kernel_rfl) ?_ _
              have hst := InQ.step heqj.out hjt hlenI.out hat.out hrd3 (hkD.trans hk3) hb5 (by omega) hQo hX5 hXs hrow5 z5
              have hBs5 := hb5.size
              have hBs6 : B6 ≤ (w5.setCell ⟨X, 2, none⟩ (.slice (some ⟨g5, 0, none⟩) (fs.length + 1 : Nat) c5)).heap.size := by have := (hal (.cells #[.string nm, .int .i64 k, .int .i64 n', .string t, .slice q (L'.length : Nat) d] 72)).size; simp; omega
              replace hst := Lib.hid hst
              go_wp2
              go_roundw
              case rel => exact ⟨j + 1, by omega, by go_num, by simpa using hBs6, _, _, hst.out⟩
              case measure => simp [intOf]; omega
        · obtain rfl : j = n2 := by omega
          have hltI : ¬ (j : Int) < (j : Int) := by omega
          obtain ⟨lj, ej, hrdj, heqj⟩ := hI.rest
          rw [Nat.sub_self] at heqj
          have hkI := hI.kept
          have zXI := hI.zX
          have hlenI := hI.len
          obtain ⟨p, pc, hv, hat⟩ := hI.row.attrs
          have hlt6 := hI.row.lt
          clear hI
          generalize fs.map AEl.a = At at hv hat heqj
          subst hv
          have hatB : AttrsP (fun b => B6 ≤ b) p pc At wr := hat.mono fun b _ hb => hb.elim id fun e => (hlt6 b e).1
          have hctx2 : ctxR true li ei = (⟨kd, ky, At⟩, lj, ej) := by rw [hctx.out, heqj]; simp [eachR]
          replace hctx2 := Lib.hid hctx2
          have hsI := hkI.size
          have hQo : hi < wo.heap.size := by omega
          have hown := hrow.lt
          have hrowK := hrow.kept hkI (by omega) (fun b hb => by omega)
          have zSK := (hkI.block S (by omega) (by omega)).trans zS
          have zHK := (hkI.block w.heap.size (by omega) (by omega)).trans zH
          obtain ⟨vA, vC, rfl, -, -, -, -⟩ := hrowK.form
          have s0 : wr.cell? ⟨S, 0, none⟩ = some (.slice vA es.length vC) := by rw [Lib.cell_of_heap zSK]; rfl
          have x0 : wr.cell? ⟨X, 0, none⟩ = some (.string kd) := by rw [Lib.cell_of_heap zXI]; rfl
          have x1 : wr.cell? ⟨X, 1, none⟩ = some (.string ky) := by rw [Lib.cell_of_heap zXI]; rfl
          have x2 : wr.cell? ⟨X, 2, none⟩ = some (.slice p At.length pc) := by rw [Lib.cell_of_heap zXI]; rfl
          have hal := fun o => (Below.refl wr.heap.size wr).alloc (Nat.le_refl _) o
          have hlen2 : es.length + 1 ≤ 1000 := by have := hlen.out; omega
          have hSw : S < wr.heap.size := by omega
          clear hctx heqj hat hlt6 hrow zS zH
          have hownD : ∀ b, (Value.slice vA es.length vC).ownBlock = some b → b < B6 := fun b hb => by have := (hown b hb).2; omega
          go_upto_region 6 with (at_builtin; refine wpList_grow eltC rfl _ _ rfl (hrowK.below (hal _)) rfl [⟨⟨kd, ky, At⟩, p, pc⟩] ⟨wr.heap.size, 0, none⟩ 1 1 rfl rfl (news_one eltC ⟨⟨kd, ky, At⟩, p, pc⟩ wr) (fun e he => by obtain rfl := List.mem_singleton.1 he; exact eltC.same (eltC.mono (Q := fun b => B ≤ b ∧ (Value.slice vA es.length vC).ownBlock ≠ some b) (x := ⟨⟨kd, ky, At⟩, p, pc⟩) hatB fun b _ hb => ⟨by omega, fun e => by have := hownD b e; omega⟩) (SameB.of_below (hal _))) (by decide) hlen2 (Nat.le_trans (by omega) (hal _).size) ?_; intro g5 c5 w8 hrow8 hgr8 hlies8 hb8; have z8 := (hb8.block S hS2).trans (((hal _).block S hSw).trans zSK); have s8 : w8.cell? ⟨S, 0, none⟩ = some (.slice vA es.length vC) := (by rw [Lib.cell_of_heap z8]; rfl); have zf8 : ∀ i, w8.frozen? ⟨S, i, none⟩ = false := Lib.frozen_of_heap z8)
          have hst := OutQ.step heq.out hlt hlen.out hctx2.out hrdj hB0 hkI hb8 (by omega) hQ0 hQS hS2 hBs hrow8 z8 zHK
          have hBs8 := hb8.size
          have hal9 := (hal (.cells #[.string kd, .string ky, .slice p (At.length : Nat) pc] 63)).size
          have hBs9 : B ≤ (w8.setCell ⟨S, 0, none⟩ (.slice (some ⟨g5, 0, none⟩) (es.length + 1 : Nat) c5)).heap.size := by simp; omega
          replace hst := Lib.hid hst
          clear hal9 hBs8 hb8 hgr8 hlies8 hrow8 z8 s8 zf8 hal s0 x0 x1 x2 hrowK zSK zHK zXI hatB
          go_wp2
          go_roundw
          case rel => exact ⟨m + 1, by omega, by go_num, by simpa using hBs9, _, _, hst.out⟩
          case measure => simp [intOf]; omega
    · obtain rfl : m = n := by omega
      have hltI : ¬ (m : Int) < (m : Int) := by omega
      obtain ⟨li, ei, hrd, heq⟩ := hC.rest
      rw [Nat.sub_self] at heq
      have zS := hC.zS
      have zH := hC.zH
      have hB3 := hC.below
      have hR1 : (L, l9, e9) = (es.map CEl.x, li, ei) := by rw [← hr2.out, heq]; simp [eachR]
      obtain ⟨rfl, rfl, rfl⟩ : L = es.map CEl.x ∧ l9 = li ∧ e9 = ei := by injection hR1 with h1 h2; injection h2 with h2 h3; exact ⟨h1, h2, h3⟩
      obtain ⟨p, pc, hv, hat⟩ := hC.row.ctxs
      have hlt6 := hC.row.lt
      subst hv
      have hatB : CtxsP (fun b => B ≤ b) p pc (es.map CEl.x) wr := hat.mono fun b _ hb => hb.elim id fun e => (hlt6 b e).1
      clear hC hr2 hR1 heq hat hlt6
      generalize es.map CEl.x = L at hdr hti zS hatB ⊢
      have hd := (Below.refl wr.heap.size wr).drew
      have hEnd := Lib.hid (Wi.refEnd_any hrd)
      have hCk := fun W (h : Below wr.heap.size wr W) => refCheck_subject p pc L W (E.below (hB3.trans (h.mono hB3.size))) (hatB.same (SameB.of_below h)) (fun x hx => (hti.2 x hx).fit) (by have := hti.1; omega)
      replace hCk := Lib.hid hCk
      have hsw := hB3.size
      have hSw : S < wr.heap.size := by omega
      clear hti
      have cS : ∀ W, Below wr.heap.size wr W → W.cell? ⟨S, 0, none⟩ = some (.slice p L.length pc) := fun W h => by rw [Lib.cell_of_heap ((h.block S hSw).trans zS)]; rfl
      have hH : ∀ W, Below wr.heap.size wr W → W.cell? ⟨w.heap.size, 0, none⟩ = some (.slice none 0 0) ∧ (∀ i, W.frozen? ⟨w.heap.size, i, none⟩ = false) := fun W h => ⟨by rw [Lib.cell_of_heap ((h.block w.heap.size (by omega)).trans zH)]; rfl, Lib.frozen_of_heap ((h.block w.heap.size (by omega)).trans zH)⟩
      have hfin : ∀ (u : Value) w5, Below wr.heap.size wr w5 → (w5.setCell ⟨w.heap.size, 0, none⟩ u).cell? ⟨w.heap.size, 0, none⟩ = some u ∧ Below w.heap.size w (w5.setCell ⟨w.heap.size, 0, none⟩ u) := fun u w5 hb5 => by
        have z5 := (hb5.block w.heap.size (by omega)).trans zH
        refine ⟨?_, (hB3.trans (hb5.mono (by omega))).setCell (p := ⟨w.heap.size, 0, none⟩) (Nat.le_refl _) u⟩
        rw [Lib.cell_of_heap (box_put z5 (i := 0) u)]
        rfl
      replace hfin := Lib.hid hfin
      replace cS := Lib.hid cS
      replace hH := Lib.hid hH
      have hwB : w.heap.size < B := by omega
      clear zS zH hB3 hrd hQ0 hQS hS2 hBs hSw
      by_cases hg : Wi.endR l9 e9 = 0 ∧ subjE L = 0
      · obtain rfl := hdr.out.trans (if_pos hg)
        obtain ⟨he, hc⟩ := hg
        rw [he] at hEnd
        rw [hc] at hCk
        clear hdr
        go_wp2_with (first | (go_at_call 64; refine hEnd.out.mono ?_; rintro en w4 ⟨rfl, hw4⟩; rw [← hw4] at hd; clear hw4; have c4 := cS.out w4 hd; have h4 := (hH.out w4 hd).1; have f4 := (hH.out w4 hd).2; have hCk4 := Lib.hid (hCk.out w4 hd)) | (go_at_call 39; refine hCk4.out.mono ?_; rintro en w5 ⟨rfl, hb5⟩; have hb5 := hd.trans (hb5.mono hd.size); have c5 := cS.out w5 hb5; have h5 := (hH.out w5 hb5).1; have f5 := (hH.out w5 hb5).2))
        obtain ⟨s6, hb6⟩ := hfin.out (.slice p (L.length : Nat) pc) w5 hb5
        have hq6 : CtxsP (fun b => B ≤ b) p pc L _ := CtxsP.same (CtxsP.same hatB (SameB.of_below hb5)) ((SameB.refl _ w5).set (B := w.heap.size) (by omega) 0 (.slice p (L.length : Nat) pc))
        generalize World.setCell _ _ _ = w6 at s6 hb6 hq6 ⊢
        refine bodyPost_ret (v := .tuple #[.agg #[.slice p (L.length : Nat) pc], .int .i64 0]) (by simp [results, Tryz.results27, go_sem, s6]) rfl ⟨⟨p, pc, rfl, hq6.mono fun b _ hb => by omega⟩, hb6⟩
      · obtain rfl := hdr.out.trans (if_neg hg)
        clear hdr
        by_cases he : Wi.endR l9 e9 = 0
        · have hc : subjE L ≠ 0 := fun h => hg ⟨he, h⟩
          have hcb : (subjE L == 0) = false := by simp [hc]
          rw [he] at hEnd
          generalize subjE L = ce at hc hcb hCk
          clear hg
          go_wp2_with (first | (go_at_call 64; refine hEnd.out.mono ?_; rintro en w4 ⟨rfl, hw4⟩; rw [← hw4] at hd; clear hw4; have c4 := cS.out w4 hd; have h4 := (hH.out w4 hd).1; have f4 := (hH.out w4 hd).2; have hCk4 := Lib.hid (hCk.out w4 hd)) | (go_at_call 39; refine hCk4.out.mono ?_; rintro en w5 ⟨rfl, hb5⟩; have hb5 := hd.trans (hb5.mono hd.size); have c5 := cS.out w5 hb5; have h5 := (hH.out w5 hb5).1; have f5 := (hH.out w5 hb5).2))
          obtain ⟨s6, hb6⟩ := hfin.out (.slice none 0 0) w5 hb5
          generalize World.setCell _ _ _ = w6 at s6 hb6 ⊢
          refine bodyPost_ret (v := .tuple #[.agg #[.slice none 0 0], .int .i64 1]) (by simp [results, Tryz.results27, go_sem, s6]) rfl ⟨⟨none, 0, rfl, ⟨fun _ => rfl, Nat.zero_le _, fun i hi => by simp at hi⟩⟩, hb6⟩
        · have heb : (Wi.endR l9 e9 == 0) = false := by simp [he]
          generalize Wi.endR l9 e9 = ee at he heb hEnd
          clear hg
          go_wp2_with (go_at_call 64; refine hEnd.out.mono ?_; rintro en w4 ⟨rfl, hw4⟩; rw [← hw4] at hd; clear hw4; have c4 := cS.out w4 hd; have h4 := (hH.out w4 hd).1; have f4 := (hH.out w4 hd).2; have hCk4 := Lib.hid (hCk.out w4 hd))
          obtain ⟨s6, hb6⟩ := hfin.out (.slice none 0 0) w4 hd
          generalize World.setCell _ _ _ = w6 at s6 hb6 ⊢
          refine bodyPost_ret (v := .tuple #[.agg #[.slice none 0 0], .int .i64 1]) (by simp [results, Tryz.results27, go_sem, s6]) rfl ⟨⟨none, 0, rfl, ⟨fun _ => rfl, Nat.zero_le _, fun i hi => by simp at hi⟩⟩, hb6⟩
end Go.Proofs.YtcbnefeedoabeaaGreatDoor
