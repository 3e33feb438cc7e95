/- Contracts of the document's reader: Bool and Word. -/
import Derived.Test.YtkmnmddengnjlaaWQ
namespace Go.Proofs.Ytkmnmddengnjlaa
open Go Go.RowKit

theorem takeR1_err {l : List UInt8} {e : Int} (he : e ≠ 0) (n : Nat) : takeR n l e = ([], l, e) := if_neg he
set_option maxHeartbeats 8000000 in
set_option maxRecDepth 100000 in
theorem refRBool_any {l : List UInt8} {e : Int} {hi Q : Nat} {w : World} (h : Rq l e hi Q w) :
    Calls Try.prog 40 #[.pointer (some ⟨Q, 0, none⟩)] w (DoneQ (.bool (boolR l e).1) (boolR l e).2.1 (boolR l e).2.2 hi Q w) := by
  obtain ⟨a, c, b, i, h, hl⟩ := h
  by_cases he : e = 0
  · subst he
    obtain rfl := hl rfl
    clear hl
    by_cases hlt : i < b.length
    · obtain ⟨bb, off, rfl, hcell⟩ := h.bytes.cell i hlt
      have ht : takeR 1 (b.drop i) 0 = ([b[i]], b.drop (i + 1), 0) := by
        unfold takeR
        rw [if_pos rfl, if_pos (by rw [List.length_drop]; omega), List.drop_drop, List.drop_eq_getElem_cons hlt]
        rfl
      have hz := b[i].toNat_lt
      have hd1 := h.drew
      have hd2 := hd1.drew
      have c0 := h.c0
      have c1 := h.c1
      have c2 := h.c2
      have d0 := hd1.c0
      have d1 := hd1.c1
      have d2 := hd1.c2
      have e0 := hd2.c0
      have e1 := hd2.c1
      have e2 := hd2.c2
      have ef := hd2.f
      have hcell1 : w.drew.cell? ⟨bb, off + i, none⟩ = some (.int .u8 (b[i].toNat : Int)) := hcell
      have hlt' : (i : Int) < (b.length : Int) := by omega
      by_cases h1 : 1 < b[i].toNat
      · have hr : boolR (b.drop i) 0 = (false, b.drop (i + 1), 1) := by unfold boolR; rw [ht]; exact (if_pos rfl).trans (if_pos h1)
        rw [hr]
        have h1' : (1 : Int) < (b[i].toNat : Int) := by omega
        have hF := Lib.hid (failQ_ok 1 (by omega) hd2)
        clear hr ht
        generalize b[i].toNat = z at *
        have hm := h.small
        replace h := Lib.hid h
        replace hd1 := Lib.hid hd1
        replace hd2 := Lib.hid hd2
        generalize b.length = m at *
        go_enter Try.func40, Try.ntmps40
        go_upto_region 1 with (fail)
        go_region
        all_goals
          go_upto_region 3 with (fail)
          go_region
          all_goals
            go_wp2_with (go_at_call 45; refine hF.out.mono ?_; rintro en w1 ⟨rfl, hk, hr1⟩; have k2 := hr1.c2)
            go_ret
            exact ⟨rfl, ((Kept.refl Q w).drew.drew).trans hk, hr1.rq' (by omega)⟩
      · have hr : boolR (b.drop i) 0 = (b[i].toNat == 1, b.drop (i + 1), 0) := by unfold boolR; rw [ht]; exact (if_pos rfl).trans (if_neg h1)
        rw [hr]
        have h1' : ¬ (1 : Int) < (b[i].toNat : Int) := by omega
        have hset := (h.setAt (i + 1) (by omega)).drew.drew
        have hkx : Kept Q w (w.setCell ⟨Q, 1, none⟩ (.int .i64 ((i + 1 : Nat) : Int))).drew.drew := (((Kept.refl Q w)).setCell 1 _).drew.drew
        obtain ⟨bb', off', hab, hcell2⟩ := hset.bytes.cell i hlt
        cases hab
        rw [show ((i + 1 : Nat) : Int) = (i : Int) + 1 from by omega] at hset hcell2 hkx
        have hb1 : (b[i].toNat == 1) = decide ((b[i].toNat : Int) = 1) := by
          rw [Bool.eq_iff_iff]
          simp
          omega
        show Calls _ _ _ _ (DoneQ (.bool (b[i].toNat == 1)) (b.drop (i + 1)) 0 hi Q w)
        rw [hb1]
        have s0 := hset.c0
        have s1 := hset.c1
        clear hr ht hb1
        obtain ⟨z, hzz⟩ : ∃ z : Int, (b[i].toNat : Int) = z := ⟨_, rfl⟩
        rw [hzz] at h1' hcell2 hcell1 hcell ⊢
        have hm := h.small
        have hrq := Lib.hid hset.rq
        replace h := Lib.hid h
        replace hd1 := Lib.hid hd1
        replace hd2 := Lib.hid hd2
        replace hset := Lib.hid hset
        clear hzz hz h1
        generalize b.length = m at *
        rw [show ((i + 1 : Nat) : Int) = (i : Int) + 1 from by omega] at s1
        go_enter Try.func40, Try.ntmps40
        go_upto_region 1 with (fail)
        go_region
        all_goals
          go_upto_region 3 with (fail)
          go_region
          all_goals
            go_upto_region 8 with (fail)
            generalize (w.setCell ⟨Q, 1, none⟩ (.int .i64 ((i : Int) + 1))).drew.drew = w2 at *
            go_region
            all_goals
              go_wp2
              go_ret
              exact ⟨rfl, hkx.drew, hrq.out.drew⟩
    · have hr : boolR (b.drop i) 0 = (false, b.drop i, 16) := by
        have ht : takeR 1 (b.drop i) 0 = ([], b.drop i, 16) := by
          unfold takeR
          rw [if_pos rfl, if_neg (by rw [List.length_drop]; omega)]
        unfold boolR
        rw [ht]
        rfl
      rw [hr]
      have hd1 := h.drew
      have c0 := h.c0
      have c1 := h.c1
      have c2 := h.c2
      have hge : (b.length : Int) ≤ (i : Int) := by omega
      have hF := Lib.hid (failQ_ok 16 (by omega) hd1)
      clear hr
      have hm := h.small
      replace h := Lib.hid h
      replace hd1 := Lib.hid hd1
      generalize b.length = m at *
      go_enter Try.func40, Try.ntmps40
      go_upto_region 1 with (fail)
      go_region
      all_goals
        go_upto_region 3 with (go_at_call 45; refine hF.out.mono ?_; rintro en w1 ⟨rfl, hk, hr1⟩; have k2 := hr1.c2; have k3 : w1.drew.cell? ⟨Q, 2, none⟩ = some (.int .i64 16) := k2)
        go_region
        all_goals
          go_wp2
          go_ret
          exact ⟨rfl, (((Kept.refl Q w).drew).trans hk).drew, (hr1.drew).rq' (by omega)⟩
  · have hr : boolR l e = (false, l, e) := by
      unfold boolR
      rw [takeR1_err he]
      exact if_neg he
    rw [hr]
    have hd2 := h.drew.drew
    have c2 := h.c2
    have d2 : w.drew.cell? ⟨Q, 2, none⟩ = some (.int .i64 e) := c2
    have e2 : w.drew.drew.cell? ⟨Q, 2, none⟩ = some (.int .i64 e) := c2
    have hb : (e == 0) = false := by simp [he]
    clear hr
    replace h := Lib.hid h
    replace hd2 := Lib.hid hd2
    go_enter Try.func40, Try.ntmps40
    go_upto_region 1 with (fail)
    go_region
    all_goals
      go_upto_region 3 with (fail)
      go_region
      all_goals
        go_wp2
        go_ret
        exact ⟨rfl, (Kept.refl Q w).drew.drew, hd2.out.rq' he⟩
end Go.Proofs.Ytkmnmddengnjlaa
