/- Contract of the package's rounds. -/
import Derived.Test.YtiomdikompodfaaDigA
namespace Go.Proofs.Ytiomdikompodfaa
open Go Go.RowKit

/-- The state lies in block B, an empty one in the block behind it; below B nothing has turned. -/
structure Sd (v : Sip) (B : Nat) (w wr : World) : Prop where
  here : wr.heap[B]? = some (.cells v.cells 36 (0, 0))
  next : wr.heap[B + 1]? = some (.cells zero4 36 (0, 0))
  below : Below B w wr
theorem Sd.ca {v : Sip} {B : Nat} {w wr : World} (h : Sd v B w wr) : wr.cell? ⟨B, 0, none⟩ = some (.int .u64 (v.a.toNat : Int)) := by rw [Lib.cell_of_heap h.here]; rfl
theorem Sd.cb {v : Sip} {B : Nat} {w wr : World} (h : Sd v B w wr) : wr.cell? ⟨B, 1, none⟩ = some (.int .u64 (v.b.toNat : Int)) := by rw [Lib.cell_of_heap h.here]; rfl
theorem Sd.cc {v : Sip} {B : Nat} {w wr : World} (h : Sd v B w wr) : wr.cell? ⟨B, 2, none⟩ = some (.int .u64 (v.c.toNat : Int)) := by rw [Lib.cell_of_heap h.here]; rfl
theorem Sd.cd {v : Sip} {B : Nat} {w wr : World} (h : Sd v B w wr) : wr.cell? ⟨B, 3, none⟩ = some (.int .u64 (v.d.toNat : Int)) := by rw [Lib.cell_of_heap h.here]; rfl
theorem Sd.f {v : Sip} {B : Nat} {w wr : World} (h : Sd v B w wr) (i : Nat) : wr.frozen? ⟨B, i, none⟩ = false := Lib.frozen_of_heap h.here i
theorem Sd.drew {v : Sip} {B : Nat} {w wr : World} (h : Sd v B w wr) : Sd v B w wr.drew := ⟨h.here, h.next, h.below.drew⟩
theorem Sd.put {v v' : Sip} {B : Nat} {w wr : World} (h : Sd v B w wr) (i : Nat) (x : Value) (he : v.cells.setIfInBounds i x = v'.cells) : Sd v' B w (wr.setCell ⟨B, i, none⟩ x) := by
  refine ⟨?_, ?_, h.below.setCell (p := ⟨B, i, none⟩) (Nat.le_refl _) _⟩
  · rw [← he]
    show (wr.heap.modify B _)[B]? = _
    rw [Array.getElem?_modify, if_pos rfl, h.here]
    rfl
  · rw [Below.heap_setCell _ _ _ _ (by simp)]
    exact h.next

/-- What the loop holds: the state behind k rounds, in the call's own block. -/
def DigRel (v : Sip) (n : Nat) (w : World) (i : Value) (wr : World) : Prop := ∃ k : Nat, k ≤ n ∧ i = .int .i64 k ∧ Sd (v.rounds k) w.heap.size w wr
set_option maxHeartbeats 8000000 in
theorem drounds_any (v : Sip) (n : Nat) (w : World) (hn : n ≤ 1000) :
    Calls Try.prog 20 #[.agg v.cells, .int .i64 n] w fun e w' => e = .returned (.agg (v.rounds n).cells) ∧ Below w.heap.size w w' := by
  go_enter Try.func20, Try.ntmps20
  go_wp2
  go_loopw [6] (fun i wr => DigRel v n w i wr) (fun i _ => n - (intOf i).toNat)
  case atStart =>
    refine ⟨0, Nat.zero_le _, rfl, ?_, ?_, ((Below.refl _ w).alloc (Nat.le_refl _) _).alloc (by simp) _⟩
    · rw [Below.heap_alloc _ _ _ (by simp)]
      exact heap_alloc_new w _
    · have := heap_alloc_new (w.alloc (.cells (Sip.cells v) 36)) (.cells zero4 36)
      rw [World.size_alloc] at this
      exact this
  case round =>
    obtain ⟨k, hk, rfl, hst⟩ := hrel
    by_cases hlt : k < n
    · have hrd := Lib.hid (show v.rounds (k + 1) = (v.rounds k).round from rfl)
      generalize v.rounds k = S at hrd hst
      have ca := hst.ca
      have cb := hst.cb
      have cc := hst.cc
      have cd := hst.cd
      have fz := hst.f
      go_upto_region 4 with (fail)
      rw [word_add S.a S.b]
      have hst1 : Sd S.s1 w.heap.size w (wr.setCell ⟨w.heap.size, 0, none⟩ (.int .u64 ((S.a + S.b).toNat : Int))) := hst.put 0 _ rfl
      generalize wr.setCell ⟨w.heap.size, 0, none⟩ (.int .u64 ((S.a + S.b).toNat : Int)) = wr1 at hst1 ⊢
      clear ca cb cc cd fz hst
      refine wp_region_still_tail 7 (by kernel_rfl) (by kernel_rfl) ?_
      simp only [List.take_succ_cons, List.take_zero, List.drop_succ_cons, List.drop_zero]
      replace hst1 := hst1.drew
      change wpStill _ _ wr1.drew (fun a' => wpList _ _ _ _ a' wr1.drew) _ _
      generalize wr1.drew = wr1d at hst1 ⊢
      have ca := hst1.ca
      have cb := hst1.cb
      have cc := hst1.cc
      have cd := hst1.cd
      have fz := hst1.f
      still_step
      still_step
      still_call ((rl13 _ _).mono fun e w' h => ⟨h.1, h.2.symm⟩)
      still_step
      still_step
      still_step
      still_step
      refine wpStill_nil ?_
      go_upto_region 5 with (fail)
      rw [word_xor (rotl S.s1.b 13) S.s1.a]
      have hst2 : Sd S.s1.s2 w.heap.size w (wr1d.setCell ⟨w.heap.size, 1, none⟩ (.int .u64 ((rotl S.s1.b 13 ^^^ S.s1.a).toNat : Int))) := hst1.put 1 _ rfl
      generalize wr1d.setCell ⟨w.heap.size, 1, none⟩ (.int .u64 ((rotl S.s1.b 13 ^^^ S.s1.a).toNat : Int)) = wr2 at hst2 ⊢
      clear ca cb cc cd fz hst1
      have ca := hst2.ca
      have cb := hst2.cb
      have cc := hst2.cc
      have cd := hst2.cd
      have fz := hst2.f
      go_upto_region 6 with (go_at_call 23; refine (rl32 _ _).mono ?_; rintro e w' ⟨rfl, rfl⟩)
      have hst3 : Sd S.s1.s2.s3 w.heap.size w (wr2.setCell ⟨w.heap.size, 0, none⟩ (.int .u64 ((rotl S.s1.s2.a 32).toNat : Int))) := hst2.put 0 _ rfl
      generalize wr2.setCell ⟨w.heap.size, 0, none⟩ (.int .u64 ((rotl S.s1.s2.a 32).toNat : Int)) = wr3 at hst3 ⊢
      clear ca cb cc cd fz hst2
      have ca := hst3.ca
      have cb := hst3.cb
      have cc := hst3.cc
      have cd := hst3.cd
      have fz := hst3.f
      go_upto_region 7 with (fail)
      rw [word_add S.s1.s2.s3.c S.s1.s2.s3.d]
      have hst4 : Sd S.s1.s2.s3.s4 w.heap.size w (wr3.setCell ⟨w.heap.size, 2, none⟩ (.int .u64 ((S.s1.s2.s3.c + S.s1.s2.s3.d).toNat : Int))) := hst3.put 2 _ rfl
      generalize wr3.setCell ⟨w.heap.size, 2, none⟩ (.int .u64 ((S.s1.s2.s3.c + S.s1.s2.s3.d).toNat : Int)) = wr4 at hst4 ⊢
      clear ca cb cc cd fz hst3
      refine wp_region_still_tail 7 (by kernel_rfl) (by kernel_rfl) ?_
      simp only [List.take_succ_cons, List.take_zero, List.drop_succ_cons, List.drop_zero]
      replace hst4 := hst4.drew
      change wpStill _ _ wr4.drew (fun a' => wpList _ _ _ _ a' wr4.drew) _ _
      generalize wr4.drew = wr4d at hst4 ⊢
      have ca := hst4.ca
      have cb := hst4.cb
      have cc := hst4.cc
      have cd := hst4.cd
      have fz := hst4.f
      still_step
      still_step
      still_call ((rl16 _ _).mono fun e w' h => ⟨h.1, h.2.symm⟩)
      still_step
      still_step
      still_step
      still_step
      refine wpStill_nil ?_
      go_upto_region 8 with (fail)
      rw [word_xor (rotl S.s1.s2.s3.s4.d 16) S.s1.s2.s3.s4.c]
      have hst5 : Sd S.s1.s2.s3.s4.s5 w.heap.size w (wr4d.setCell ⟨w.heap.size, 3, none⟩ (.int .u64 ((rotl S.s1.s2.s3.s4.d 16 ^^^ S.s1.s2.s3.s4.c).toNat : Int))) := hst4.put 3 _ rfl
      generalize wr4d.setCell ⟨w.heap.size, 3, none⟩ (.int .u64 ((rotl S.s1.s2.s3.s4.d 16 ^^^ S.s1.s2.s3.s4.c).toNat : Int)) = wr5 at hst5 ⊢
      clear ca cb cc cd fz hst4
      have ca := hst5.ca
      have cb := hst5.cb
      have cc := hst5.cc
      have cd := hst5.cd
      have fz := hst5.f
      go_upto_region 9 with (fail)
      rw [word_add S.s1.s2.s3.s4.s5.a S.s1.s2.s3.s4.s5.d]
      have hst6 : Sd S.s1.s2.s3.s4.s5.s6 w.heap.size w (wr5.setCell ⟨w.heap.size, 0, none⟩ (.int .u64 ((S.s1.s2.s3.s4.s5.a + S.s1.s2.s3.s4.s5.d).toNat : Int))) := hst5.put 0 _ rfl
      generalize wr5.setCell ⟨w.heap.size, 0, none⟩ (.int .u64 ((S.s1.s2.s3.s4.s5.a + S.s1.s2.s3.s4.s5.d).toNat : Int)) = wr6 at hst6 ⊢
      clear ca cb cc cd fz hst5
      refine wp_region_still_tail 7 (by kernel_rfl) (by kernel_rfl) ?_
      simp only [List.take_succ_cons, List.take_zero, List.drop_succ_cons, List.drop_zero]
      replace hst6 := hst6.drew
      change wpStill _ _ wr6.drew (fun a' => wpList _ _ _ _ a' wr6.drew) _ _
      generalize wr6.drew = wr6d at hst6 ⊢
      have ca := hst6.ca
      have cb := hst6.cb
      have cc := hst6.cc
      have cd := hst6.cd
      have fz := hst6.f
      still_step
      still_step
      still_call ((rl21 _ _).mono fun e w' h => ⟨h.1, h.2.symm⟩)
      still_step
      still_step
      still_step
      still_step
      refine wpStill_nil ?_
      go_upto_region 10 with (fail)
      rw [word_xor (rotl S.s1.s2.s3.s4.s5.s6.d 21) S.s1.s2.s3.s4.s5.s6.a]
      have hst7 : Sd S.s1.s2.s3.s4.s5.s6.s7 w.heap.size w (wr6d.setCell ⟨w.heap.size, 3, none⟩ (.int .u64 ((rotl S.s1.s2.s3.s4.s5.s6.d 21 ^^^ S.s1.s2.s3.s4.s5.s6.a).toNat : Int))) := hst6.put 3 _ rfl
      generalize wr6d.setCell ⟨w.heap.size, 3, none⟩ (.int .u64 ((rotl S.s1.s2.s3.s4.s5.s6.d 21 ^^^ S.s1.s2.s3.s4.s5.s6.a).toNat : Int)) = wr7 at hst7 ⊢
      clear ca cb cc cd fz hst6
      have ca := hst7.ca
      have cb := hst7.cb
      have cc := hst7.cc
      have cd := hst7.cd
      have fz := hst7.f
      go_upto_region 11 with (fail)
      rw [word_add S.s1.s2.s3.s4.s5.s6.s7.c S.s1.s2.s3.s4.s5.s6.s7.b]
      have hst8 : Sd S.s1.s2.s3.s4.s5.s6.s7.s8 w.heap.size w (wr7.setCell ⟨w.heap.size, 2, none⟩ (.int .u64 ((S.s1.s2.s3.s4.s5.s6.s7.c + S.s1.s2.s3.s4.s5.s6.s7.b).toNat : Int))) := hst7.put 2 _ rfl
      generalize wr7.setCell ⟨w.heap.size, 2, none⟩ (.int .u64 ((S.s1.s2.s3.s4.s5.s6.s7.c + S.s1.s2.s3.s4.s5.s6.s7.b).toNat : Int)) = wr8 at hst8 ⊢
      clear ca cb cc cd fz hst7
      refine wp_region_still_tail 7 (by kernel_rfl) (by kernel_rfl) ?_
      simp only [List.take_succ_cons, List.take_zero, List.drop_succ_cons, List.drop_zero]
      replace hst8 := hst8.drew
      change wpStill _ _ wr8.drew (fun a' => wpList _ _ _ _ a' wr8.drew) _ _
      generalize wr8.drew = wr8d at hst8 ⊢
      have ca := hst8.ca
      have cb := hst8.cb
      have cc := hst8.cc
      have cd := hst8.cd
      have fz := hst8.f
      still_step
      still_step
      still_call ((rl17 _ _).mono fun e w' h => ⟨h.1, h.2.symm⟩)
      still_step
      still_step
      still_step
      still_step
      refine wpStill_nil ?_
      go_upto_region 12 with (fail)
      rw [word_xor (rotl S.s1.s2.s3.s4.s5.s6.s7.s8.b 17) S.s1.s2.s3.s4.s5.s6.s7.s8.c]
      have hst9 : Sd S.s1.s2.s3.s4.s5.s6.s7.s8.s9 w.heap.size w (wr8d.setCell ⟨w.heap.size, 1, none⟩ (.int .u64 ((rotl S.s1.s2.s3.s4.s5.s6.s7.s8.b 17 ^^^ S.s1.s2.s3.s4.s5.s6.s7.s8.c).toNat : Int))) := hst8.put 1 _ rfl
      generalize wr8d.setCell ⟨w.heap.size, 1, none⟩ (.int .u64 ((rotl S.s1.s2.s3.s4.s5.s6.s7.s8.b 17 ^^^ S.s1.s2.s3.s4.s5.s6.s7.s8.c).toNat : Int)) = wr9 at hst9 ⊢
      clear ca cb cc cd fz hst8
      have ca := hst9.ca
      have cb := hst9.cb
      have cc := hst9.cc
      have cd := hst9.cd
      have fz := hst9.f
      go_upto_region 13 with (go_at_call 23; refine (rl32 _ _).mono ?_; rintro e w' ⟨rfl, rfl⟩)
      have hst10 : Sd S.s1.s2.s3.s4.s5.s6.s7.s8.s9.s10 w.heap.size w (wr9.setCell ⟨w.heap.size, 2, none⟩ (.int .u64 ((rotl S.s1.s2.s3.s4.s5.s6.s7.s8.s9.c 32).toNat : Int))) := hst9.put 2 _ rfl
      generalize wr9.setCell ⟨w.heap.size, 2, none⟩ (.int .u64 ((rotl S.s1.s2.s3.s4.s5.s6.s7.s8.s9.c 32).toNat : Int)) = wr10 at hst10 ⊢
      clear ca cb cc cd fz hst9
      have hfin : Sd (v.rounds (k + 1)) w.heap.size w wr10 := by rw [hrd.out]; exact hst10
      clear hst10
      go_wp2
      go_roundw
      case rel => exact ⟨k + 1, by omega, by go_num, hfin⟩
      case measure => simp [intOf]; omega
    · obtain rfl : k = n := by omega
      have ca := hst.ca
      have cb := hst.cb
      have cc := hst.cc
      have cd := hst.cd
      have fz := hst.f
      have n0 : wr.cell? ⟨w.heap.size + 1, 0, none⟩ = some (.int .u64 0) := by rw [Lib.cell_of_heap hst.next]; rfl
      have n1 : wr.cell? ⟨w.heap.size + 1, 1, none⟩ = some (.int .u64 0) := by rw [Lib.cell_of_heap hst.next]; rfl
      have n2 : wr.cell? ⟨w.heap.size + 1, 2, none⟩ = some (.int .u64 0) := by rw [Lib.cell_of_heap hst.next]; rfl
      have n3 : wr.cell? ⟨w.heap.size + 1, 3, none⟩ = some (.int .u64 0) := by rw [Lib.cell_of_heap hst.next]; rfl
      have fn : ∀ i, wr.frozen? ⟨w.heap.size + 1, i, none⟩ = false := Lib.frozen_of_heap hst.next
      obtain ⟨S, hS⟩ : ∃ S, v.rounds k = S := ⟨_, rfl⟩
      rw [hS] at hst ca cb cc cd
      replace hS := Lib.hid hS
      have hbl := hst.below
      clear hst
      go_wp2
      refine bodyPost_ret (v := .agg S.cells) (by simp [results, Try.results20, go_sem, Sip.cells, n0, n1, n2, n3]) rfl ⟨by rw [hS.out], ?_⟩
      exact (((hbl.setCell (p := ⟨w.heap.size + 1, 0, none⟩) (Nat.le_succ _) _).setCell (p := ⟨w.heap.size + 1, 1, none⟩) (Nat.le_succ _) _).setCell (p := ⟨w.heap.size + 1, 2, none⟩) (Nat.le_succ _) _).setCell (p := ⟨w.heap.size + 1, 3, none⟩) (Nat.le_succ _) _
end Go.Proofs.Ytiomdikompodfaa
