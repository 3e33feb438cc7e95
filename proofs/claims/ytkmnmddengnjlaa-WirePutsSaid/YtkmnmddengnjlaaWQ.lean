/- Contracts of the document's reader: Number in short, End, Count, Text, Bool. -/
import Derived.Test.YtkmnmddengnjlaaWQNum
namespace Go.Proofs.Ytkmnmddengnjlaa
open Go Go.RowKit

set_option maxHeartbeats 4000000 in
set_option maxRecDepth 100000 in
theorem refNumber_err {a : Option Addr} {c : Nat} {b : List UInt8} {at_ : Nat} {e : Int} {hi Q : Nat} {w : World} (h : RqR a c b at_ e hi Q w) (he : e ≠ 0) :
    Calls Try.prog 32 #[.pointer (some ⟨Q, 0, none⟩)] w fun en w' => en = .returned (.int .i64 0) ∧ w = w' := by
  have c2 := h.c2
  have hb : (e == 0) = false := by simp [he]
  clear h
  go_enter Try.func32, Try.ntmps32
  go_wp2
  go_loop [3, 4] (fun u i => u = .int .u64 0 ∧ i = .int .i64 0) (fun _ _ => 0)
  case atStart => exact ⟨rfl, rfl⟩
  case round =>
    obtain ⟨rfl, rfl⟩ := hrel
    go_wp2
    go_ret
    exact ⟨rfl, rfl⟩
theorem refNumber_any' {l : List UInt8} {e : Int} {hi Q : Nat} {w : World} (h : Rq l e hi Q w) :
    Calls Try.prog 32 #[.pointer (some ⟨Q, 0, none⟩)] w (DoneQ (.int .i64 (numR l e).1) (numR l e).2.1 (numR l e).2.2 hi Q w) := by
  obtain ⟨a, c, b, i, h, hl⟩ := h
  by_cases he : e = 0
  · subst he
    obtain rfl := hl rfl
    rcases readG_fits (b.drop i) 0 0 (by omega) (by decide) with ⟨x, hx, hg⟩ | ⟨v, n, hg, _⟩
    · have hx0 : x ≠ 0 := by omega
      have hr : numR (b.drop i) 0 = (0, b.drop i, x) := by unfold numR; rw [if_pos rfl, hg, if_neg hx0]
      rw [hr]
      have := refNumber_run h 0 0 x hg
      rw [if_neg hx0, if_neg hx0] at this
      exact this.mono fun _ _ ⟨h1, h2, h3⟩ => ⟨h1, h2, h3.rq⟩
    · have hr : numR (b.drop i) 0 = (unz v, (b.drop i).drop n, 0) := by unfold numR; rw [if_pos rfl, hg, if_pos rfl]
      rw [hr, List.drop_drop]
      have := refNumber_run h v n 0 hg
      rw [if_pos rfl, if_pos rfl] at this
      exact this.mono fun _ _ ⟨h1, h2, h3⟩ => ⟨h1, h2, h3.rq⟩
  · have hr : numR l e = (0, l, e) := if_neg he
    rw [hr]
    exact (refNumber_err h he).mono fun _ _ ⟨h1, h2⟩ => ⟨h1, h2 ▸ Kept.refl _ _, a, c, b, i, h2 ▸ h, hl⟩
/-- The error stands in the reader's third cell. -/
theorem Rq.err {l : List UInt8} {e : Int} {hi Q : Nat} {w : World} (h : Rq l e hi Q w) : w.cell? ⟨Q, 2, none⟩ = some (.int .i64 e) := by
  obtain ⟨a, c, b, i, h, hl⟩ := h
  exact h.c2
theorem Rq.drew {l : List UInt8} {e : Int} {hi Q : Nat} {w : World} (h : Rq l e hi Q w) : Rq l e hi Q w.drew := by
  obtain ⟨a, c, b, i, h, hl⟩ := h
  exact ⟨a, c, b, i, h.drew, hl⟩
theorem Rq.drewN {l : List UInt8} {e : Int} {hi Q : Nat} {w : World} (h : Rq l e hi Q w) (n : Nat) : Rq l e hi Q (w.drewN n) := by
  obtain ⟨a, c, b, i, h, hl⟩ := h
  exact ⟨a, c, b, i, ⟨h.here, h.le, h.small, h.at_le, ⟨h.bytes.top, h.bytes.at_⟩, h.hiQ, h.err⟩, hl⟩
set_option maxHeartbeats 4000000 in
theorem refEnd_any {l : List UInt8} {e : Int} {hi Q : Nat} {w : World} (h : Rq l e hi Q w) :
    Calls Try.prog 24 #[.pointer (some ⟨Q, 0, none⟩)] w fun en w' => en = .returned (.int .i64 (endR l e)) ∧ w' = w.drew := by
  obtain ⟨a, c, b, i, h, hl⟩ := h
  have c0 := h.c0
  have c1 := h.c1
  have c2 := h.c2
  have d2 : w.drew.cell? ⟨Q, 2, none⟩ = some (.int .i64 e) := c2
  have hle := h.at_le
  clear h
  obtain ⟨V, hV⟩ : ∃ V, endR l e = V := ⟨_, rfl⟩
  rw [hV]
  by_cases he : e = 0
  · subst he
    obtain rfl := hl rfl
    clear hl
    by_cases h0 : i < b.length
    · obtain rfl : (17 : Int) = V := by rw [← hV]; exact (if_pos ⟨rfl, by rw [List.length_drop]; omega⟩).symm
      have h1 : (i : Int) < (b.length : Int) := by omega
      clear hV
      generalize b.length = m at *
      go_enter Try.func24, Try.ntmps24
      go_upto_region 1 with (fail)
      go_region
      all_goals
        go_wp2
        go_ret
        exact ⟨rfl, rfl⟩
    · obtain rfl : (0 : Int) = V := by rw [← hV]; exact (if_neg (fun h => by have := h.2; rw [List.length_drop] at this; omega)).symm
      have h1 : ¬ (i : Int) < (b.length : Int) := by omega
      clear hV
      generalize b.length = m at *
      go_enter Try.func24, Try.ntmps24
      go_upto_region 1 with (fail)
      go_region
      all_goals
        go_wp2
        go_ret
        exact ⟨rfl, rfl⟩
  · obtain rfl : e = V := by rw [← hV]; exact (if_neg (fun h => he h.1)).symm
    have hb : (e == 0) = false := by simp [he]
    clear hV hl
    go_enter Try.func24, Try.ntmps24
    go_upto_region 1 with (fail)
    go_region
    all_goals
      go_wp2
      go_ret
      exact ⟨rfl, rfl⟩
set_option maxHeartbeats 8000000 in
theorem refCount_any {l : List UInt8} {e : Int} {hi Q : Nat} {w : World} (most : Int) (h : Rq l e hi Q w) :
    Calls Try.prog 43 #[.pointer (some ⟨Q, 0, none⟩), .int .i64 most] w (DoneQ (.int .i64 ((atR most 5 l e).1 : Nat)) (atR most 5 l e).2.1 (atR most 5 l e).2.2 hi Q w) := by
  have hn := refNumber_any' h
  have hr := numR_range l e
  have hA : atR most 5 l e = if (numR l e).2.2 = 0 then (if (numR l e).1 < 0 then (0, (numR l e).2.1, 3) else if most < (numR l e).1 then (0, (numR l e).2.1, 5) else ((numR l e).1.toNat, (numR l e).2.1, 0)) else (0, (numR l e).2.1, (numR l e).2.2) := rfl
  generalize (numR l e).1 = n at hn hr hA
  generalize (numR l e).2.1 = l1 at hn hA
  generalize (numR l e).2.2 = e1 at hn hA
  clear h
  replace hn := Lib.hid hn
  by_cases he : e1 = 0
  · subst he
    rw [if_pos rfl] at hA
    by_cases h1 : n < 0
    · rw [if_pos h1] at hA
      rw [hA]
      have hF := Lib.hid (fun w' (h : Rq l1 0 hi Q w') => failQ_any 3 (by omega) h)
      clear hA hr
      go_enter Try.func43, Try.ntmps43
      go_wp2_with (first | (go_at_call 32; refine hn.out.mono ?_; rintro en w1 ⟨rfl, hk, hrd⟩; have c2 := hrd.err) | (go_at_call 45; refine (hF.out _ hrd).mono ?_; rintro en w2 ⟨rfl, hk2, hrd2⟩; have d2 := hrd2.err; change w2.cell? ⟨Q, 2, none⟩ = some (.int .i64 3) at d2))
      go_ret
      exact ⟨rfl, hk.trans hk2, hrd2⟩
    · rw [if_neg h1] at hA
      by_cases h2 : most < n
      · rw [if_pos h2] at hA
        rw [hA]
        have hF := Lib.hid (fun w' (h : Rq l1 0 hi Q w') => failQ_any 5 (by omega) h)
        clear hA hr
        go_enter Try.func43, Try.ntmps43
        go_wp2_with (first | (go_at_call 32; refine hn.out.mono ?_; rintro en w1 ⟨rfl, hk, hrd⟩; have c2 := hrd.err) | (go_at_call 45; refine (hF.out _ hrd).mono ?_; rintro en w2 ⟨rfl, hk2, hrd2⟩; have d2 := hrd2.err; change w2.cell? ⟨Q, 2, none⟩ = some (.int .i64 5) at d2))
        go_ret
        exact ⟨rfl, hk.trans hk2, hrd2⟩
      · rw [if_neg h2] at hA
        rw [hA]
        obtain ⟨m, rfl⟩ : ∃ m : Nat, n = (m : Int) := ⟨n.toNat, by omega⟩
        rw [Int.toNat_natCast]
        clear hA hr
        go_enter Try.func43, Try.ntmps43
        go_wp2_with (go_at_call 32; refine hn.out.mono ?_; rintro en w1 ⟨rfl, hk, hrd⟩; have c2 := hrd.err)
        go_ret
        exact ⟨rfl, hk, hrd⟩
  · rw [if_neg he] at hA
    rw [hA]
    have hb : (e1 == 0) = false := by simp [he]
    clear hA hr
    go_enter Try.func43, Try.ntmps43
    go_wp2_with (go_at_call 32; refine hn.out.mono ?_; rintro en w1 ⟨rfl, hk, hrd⟩; have c2 := hrd.err)
    go_ret
    exact ⟨rfl, hk, hrd⟩
end Go.Proofs.Ytkmnmddengnjlaa
