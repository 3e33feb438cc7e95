/- Contract of the package's absorb: one word goes into the state. -/
import Derived.Test.YtiomdikompodfaaDigC
namespace Go.Proofs.Ytiomdikompodfaa
open Go Go.RowKit

theorem Sd.lt {v : Sip} {B : Nat} {w wr : World} (h : Sd v B w wr) : B + 1 < wr.heap.size := (Array.getElem?_eq_some_iff.1 h.next).1
theorem Sd.grown {v : Sip} {B : Nat} {w wr w' : World} (h : Sd v B w wr) (hb : Below wr.heap.size wr w') : Sd v B w w' :=
  ⟨(hb.block B (by have := h.lt; omega)).trans h.here, (hb.block (B + 1) h.lt).trans h.next, h.below.trans (hb.mono (by have := h.lt; omega))⟩
theorem Sd.put4 {v : Sip} {B : Nat} {w wr : World} (h : Sd v B w wr) (v' : Sip) : Sd v' B w ((((wr.setCell ⟨B, 0, none⟩ (.int .u64 (v'.a.toNat : Int))).setCell ⟨B, 1, none⟩ (.int .u64 (v'.b.toNat : Int))).setCell ⟨B, 2, none⟩ (.int .u64 (v'.c.toNat : Int))).setCell ⟨B, 3, none⟩ (.int .u64 (v'.d.toNat : Int))) := by
  have h1 : Sd { v with a := v'.a } B w _ := h.put 0 (.int .u64 (v'.a.toNat : Int)) rfl
  have h2 : Sd { v with a := v'.a, b := v'.b } B w _ := h1.put 1 (.int .u64 (v'.b.toNat : Int)) rfl
  have h3 : Sd { v with a := v'.a, b := v'.b, c := v'.c } B w _ := h2.put 2 (.int .u64 (v'.c.toNat : Int)) rfl
  exact h3.put 3 (.int .u64 (v'.d.toNat : Int)) rfl
theorem drounds_lit (v : Sip) (n : Nat) (w : World) (hn : n ≤ 1000) (m : Int) (hm : m = (n : Int)) :
    Calls Try.prog 20 #[.agg #[.int .u64 (v.a.toNat : Int), .int .u64 (v.b.toNat : Int), .int .u64 (v.c.toNat : Int), .int .u64 (v.d.toNat : Int)], .int .i64 m] w
      fun e w' => e = .returned (.agg #[.int .u64 ((v.rounds n).a.toNat : Int), .int .u64 ((v.rounds n).b.toNat : Int), .int .u64 ((v.rounds n).c.toNat : Int), .int .u64 ((v.rounds n).d.toNat : Int)]) ∧ Below w.heap.size w w' := by
  rw [hm]
  exact drounds_any v n w hn

set_option maxHeartbeats 8000000 in
theorem absorb_lit (v : Sip) (M : UInt64) (w : World) :
    Calls Try.prog 18 #[.agg #[.int .u64 (v.a.toNat : Int), .int .u64 (v.b.toNat : Int), .int .u64 (v.c.toNat : Int), .int .u64 (v.d.toNat : Int)], .int .u64 (M.toNat : Int)] w
      fun e w' => e = .returned (.agg #[.int .u64 ((((v.xd M).rounds 2).xa M).a.toNat : Int), .int .u64 ((((v.xd M).rounds 2).xa M).b.toNat : Int), .int .u64 ((((v.xd M).rounds 2).xa M).c.toNat : Int), .int .u64 ((((v.xd M).rounds 2).xa M).d.toNat : Int)]) ∧ Below w.heap.size w w' := by
  obtain ⟨V1, hV1⟩ : ∃ V1, v.xd M = V1 := ⟨_, rfl⟩
  obtain ⟨V2, hV2⟩ : ∃ V2, V1.rounds 2 = V2 := ⟨_, rfl⟩
  obtain ⟨V3, hV3⟩ : ∃ V3, V2.xa M = V3 := ⟨_, rfl⟩
  rw [hV1, hV2, hV3]
  replace hV1 := Lib.hid hV1
  replace hV2 := Lib.hid hV2
  replace hV3 := Lib.hid hV3
  go_enter Try.func18, Try.ntmps18
  go_upto_region 1 with (fail)
  have hst : Sd v w.heap.size w ((w.alloc (.cells #[.int .u64 (v.a.toNat : Int), .int .u64 (v.b.toNat : Int), .int .u64 (v.c.toNat : Int), .int .u64 (v.d.toNat : Int)] 36)).alloc (.cells zero4 36)) := by
    refine ⟨?_, ?_, ((Below.refl _ w).alloc (Nat.le_refl _) _).alloc (by simp) _⟩
    · rw [Below.heap_alloc _ _ _ (by simp)]
      exact heap_alloc_new w _
    · have := heap_alloc_new (w.alloc (.cells (Sip.cells v) 36)) (.cells zero4 36)
      rw [World.size_alloc] at this
      exact this
  simp only [zero4] at hst
  generalize (w.alloc (.cells #[.int .u64 (v.a.toNat : Int), .int .u64 (v.b.toNat : Int), .int .u64 (v.c.toNat : Int), .int .u64 (v.d.toNat : Int)] 36)).alloc (.cells #[.int .u64 0, .int .u64 0, .int .u64 0, .int .u64 0] 36) = w0 at hst ⊢
  have hcd := hst.cd
  have hfz := hst.f
  go_upto_region 2 with (fail)
  rw [word_xor v.d M]
  have hst1 : Sd V1 w.heap.size w (w0.setCell ⟨w.heap.size, 3, none⟩ (.int .u64 ((v.d ^^^ M).toNat : Int))) := hst.put 3 _ (by rw [← hV1.out]; rfl)
  generalize w0.setCell ⟨w.heap.size, 3, none⟩ (.int .u64 ((v.d ^^^ M).toNat : Int)) = w1 at hst1 ⊢
  clear hcd hfz hst
  have ca := hst1.ca
  have cb := hst1.cb
  have cc := hst1.cc
  have cd := hst1.cd
  have hfz := hst1.f
  have hro := drounds_lit V1 2 w1 (by omega) 2 rfl
  rw [hV2.out] at hro
  go_upto_region 3 with (go_at_call 20; refine hro.mono ?_; rintro e w2 ⟨rfl, hb2⟩; have hst2 := hst1.grown hb2; have hfz2 := hst2.f; have ca2 := hst2.ca; have cb2 := hst2.cb; have cc2 := hst2.cc; have cd2 := hst2.cd)
  have hst3 := hst2.put4 V2
  generalize (((w2.setCell ⟨w.heap.size, 0, none⟩ (.int .u64 (V2.a.toNat : Int))).setCell ⟨w.heap.size, 1, none⟩ (.int .u64 (V2.b.toNat : Int))).setCell ⟨w.heap.size, 2, none⟩ (.int .u64 (V2.c.toNat : Int))).setCell ⟨w.heap.size, 3, none⟩ (.int .u64 (V2.d.toNat : Int)) = w3 at hst3 ⊢
  clear ca cb cc cd hfz ca2 cb2 cc2 cd2 hfz2 hst2 hst1 hro
  have ca := hst3.ca
  have hfz := hst3.f
  go_upto_region 4 with (fail)
  rw [word_xor V2.a M]
  have hst4 : Sd V3 w.heap.size w (w3.setCell ⟨w.heap.size, 0, none⟩ (.int .u64 ((V2.a ^^^ M).toNat : Int))) := hst3.put 0 _ (by rw [← hV3.out]; rfl)
  generalize w3.setCell ⟨w.heap.size, 0, none⟩ (.int .u64 ((V2.a ^^^ M).toNat : Int)) = w4 at hst4 ⊢
  clear ca hfz hst3
  have ca := hst4.ca
  have cb := hst4.cb
  have cc := hst4.cc
  have cd := hst4.cd
  have hfz := hst4.f
  have n0 : w4.cell? ⟨w.heap.size + 1, 0, none⟩ = some (.int .u64 0) := by rw [Lib.cell_of_heap hst4.next]; rfl
  have n1 : w4.cell? ⟨w.heap.size + 1, 1, none⟩ = some (.int .u64 0) := by rw [Lib.cell_of_heap hst4.next]; rfl
  have n2 : w4.cell? ⟨w.heap.size + 1, 2, none⟩ = some (.int .u64 0) := by rw [Lib.cell_of_heap hst4.next]; rfl
  have n3 : w4.cell? ⟨w.heap.size + 1, 3, none⟩ = some (.int .u64 0) := by rw [Lib.cell_of_heap hst4.next]; rfl
  have fn : ∀ i, w4.frozen? ⟨w.heap.size + 1, i, none⟩ = false := Lib.frozen_of_heap hst4.next
  have hbl := hst4.below
  clear hst4
  go_wp2
  refine bodyPost_ret (v := .agg V3.cells) (by simp [results, Try.results18, go_sem, Sip.cells, n0, n1, n2, n3]) rfl ⟨rfl, ?_⟩
  exact (((hbl.setCell (p := ⟨w.heap.size + 1, 0, none⟩) (Nat.le_succ _) _).setCell (p := ⟨w.heap.size + 1, 1, none⟩) (Nat.le_succ _) _).setCell (p := ⟨w.heap.size + 1, 2, none⟩) (Nat.le_succ _) _).setCell (p := ⟨w.heap.size + 1, 3, none⟩) (Nat.le_succ _) _
end Go.Proofs.Ytiomdikompodfaa
