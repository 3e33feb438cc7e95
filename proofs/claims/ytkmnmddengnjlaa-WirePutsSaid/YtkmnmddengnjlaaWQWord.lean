/- Contract of the document's reader: Word. -/
import Derived.Test.YtkmnmddengnjlaaWQBool
namespace Go.Proofs.Ytkmnmddengnjlaa
open Go Go.RowKit

/-- What holds at the head of the loop of Word. -/
def WordAt (a : Option Addr) (c : Nat) (b : List UInt8) (at_ hi Q : Nat) (w : World) (v i : Value) (wr : World) : Prop :=
  ∃ k : Nat, k ≤ 8 ∧ i = .int .i64 k ∧ v = .int .u64 (beN ((b.drop at_).take k) : Nat) ∧ RqR a c b at_ 0 hi Q wr ∧ Kept Q w wr
set_option maxHeartbeats 8000000 in
set_option maxRecDepth 100000 in
theorem refRWord_any {l : List UInt8} {e : Int} {hi Q : Nat} {w : World} (h : Rq l e hi Q w) :
    Calls Try.prog 38 #[.pointer (some ⟨Q, 0, none⟩)] w (DoneQ (.int .u64 ((wordR l e).1 : Nat)) (wordR l e).2.1 (wordR l e).2.2 hi Q w) := by
  obtain ⟨a, c, b, i, h, hl⟩ := h
  by_cases he : e = 0
  · subst he
    obtain rfl := hl rfl
    clear hl
    have c0 := h.c0
    have c1 := h.c1
    have c2 := h.c2
    have hd1 := h.drew
    have d2 := hd1.c2
    have hle := h.at_le
    have hsm := h.small
    by_cases h8 : i + 8 ≤ b.length
    · have hr : wordR (b.drop i) 0 = (beN ((b.drop i).take 8), b.drop (i + 8), 0) := by
        unfold wordR takeR
        rw [if_pos rfl, if_pos (by rw [List.length_drop]; omega), List.drop_drop]
      rw [hr]
      have h8' : ¬ (b.length : Int) - (i : Int) < 8 := by omega
      obtain ⟨V, hV⟩ : ∃ V, beN ((b.drop i).take 8) = V := ⟨_, rfl⟩
      rw [hV]
      have hst : WordAt a c b i hi Q w (.int .u64 0) (.int .i64 0) w.drew := ⟨0, by omega, rfl, rfl, hd1, (Kept.refl Q w).drew⟩
      clear hr
      replace hV := Lib.hid hV
      replace h := Lib.hid h
      replace hd1 := Lib.hid hd1
      obtain ⟨m, hm⟩ : ∃ m, b.length = m := ⟨_, rfl⟩
      rw [hm] at c0 h8' hle hsm
      go_enter Try.func38, Try.ntmps38
      go_upto_region 1 with (fail)
      go_region
      all_goals
        replace hm := Lib.hid hm
        go_wp2
        generalize w.drew = wx at *
        go_loopw [3, 4] (fun v j wr => WordAt a c b i hi Q w v j wr) (fun _ j _ => 8 - (intOf j).toNat)
        case atStart => exact hst
        case round =>
          obtain ⟨k, hk8, rfl, rfl, hrq, hk⟩ := hrel
          clear c0 c1 c2 d2 hst
          have c0 := hrq.c0
          have c1 := hrq.c1
          have d0 := hrq.drew.c0
          have d1 := hrq.drew.c1
          have df := hrq.drew.f
          rw [hm.out] at c0 d0
          by_cases hlt : k < 8
          · have hlt' : (k : Int) < 8 := by omega
            obtain ⟨bb, off, rfl, hcell⟩ := hrq.bytes.cell (i + k) (by omega)
            have hix : (i : Int) + (k : Int) < (m : Int) := by have := hm.out; omega
            have hl8 : ((b.drop i).take 8).length = 8 := by rw [List.length_take, List.length_drop]; omega
            have hdl : k < (b.drop i).length := by rw [List.length_drop]; omega
            have hn := beN_take (b.drop i) k hdl
            have hgx : (b.drop i)[k] = b[i + k] := by simp
            rw [hgx] at hn
            have hv := beN_lt (b.drop i) k (Nat.le_of_lt hdl)
            have hp : 256 ^ k ≤ 256 ^ 7 := Nat.pow_le_pow_right (by omega) (by omega)
            have hx := b[i + k].toNat_lt
            have hor := or_byte (beN ((b.drop i).take k)) b[i + k].toNat (by simp only [Nat.reducePow] at hp; omega) hx
            rw [← hn] at hor
            have hcell1 : wr.drew.cell? ⟨bb, off + (i + k), none⟩ = some (.int .u8 (b[i + k].toNat : Int)) := hcell
            have hst2 := Lib.hid (show WordAt (some ⟨bb, off, none⟩) c b i hi Q w (.int .u64 (beN ((b.drop i).take (k + 1)) : Nat)) (.int .i64 ((k + 1 : Nat) : Int)) wr.drew from ⟨k + 1, by omega, rfl, rfl, hrq.drew, hk.drew⟩)
            replace hrq := Lib.hid hrq
            generalize beN ((b.drop i).take (k + 1)) = v2 at hor hst2
            generalize beN ((b.drop i).take k) = v at hor
            generalize b[i + k].toNat = x at hor hcell hcell1 hx
            have hx' : x < 256 := hx
            clear hn hv hp hx hgx hl8 hdl hcell
            go_upto_region 9 with (fail)
            go_region
            all_goals
              go_wp2
              go_roundw
              case rel => exact hst2.out
              case measure => simp [intOf]; omega
          · obtain rfl : k = 8 := by omega
            have hset := hrq.setAt (i + 8) (by omega)
            rw [show ((i + 8 : Nat) : Int) = (i : Int) + 8 from by omega] at hset
            have hkx := hk.setCell 1 (.int .i64 ((i : Int) + 8))
            have hf := hrq.f
            replace hset := Lib.hid hset
            replace hkx := Lib.hid hkx
            replace hrq := Lib.hid hrq
            rw [hV.out]
            go_wp2
            go_ret
            exact ⟨rfl, hkx.out, hset.out.rq⟩
    · have hr : wordR (b.drop i) 0 = (0, b.drop i, 16) := by
        unfold wordR takeR
        rw [if_pos rfl, if_neg (by rw [List.length_drop]; omega)]
        rfl
      rw [hr]
      have h8' : (b.length : Int) - (i : Int) < 8 := by omega
      have hF := Lib.hid (failQ_ok 16 (by omega) hd1)
      clear hr
      replace h := Lib.hid h
      replace hd1 := Lib.hid hd1
      generalize b.length = m at *
      go_enter Try.func38, Try.ntmps38
      go_upto_region 1 with (fail)
      go_region
      all_goals
        go_wp2_with (go_at_call 45; refine hF.out.mono ?_; rintro en w1 ⟨rfl, hk, hr1⟩; have k2 := hr1.c2)
        go_ret
        exact ⟨rfl, ((Kept.refl Q w).drew).trans hk, hr1.rq' (by omega)⟩
  · have hr : wordR l e = (0, l, e) := by
      unfold wordR
      rw [takeR1_err he]
      rfl
    rw [hr]
    have hd1 := h.drew
    have c2 := h.c2
    have d2 : w.drew.cell? ⟨Q, 2, none⟩ = some (.int .i64 e) := c2
    have hb : (e == 0) = false := by simp [he]
    clear hr
    replace h := Lib.hid h
    replace hd1 := Lib.hid hd1
    go_enter Try.func38, Try.ntmps38
    go_upto_region 1 with (fail)
    go_region
    all_goals
      go_wp2
      go_ret
      exact ⟨rfl, (Kept.refl Q w).drew, hd1.out.rq' he⟩
end Go.Proofs.Ytkmnmddengnjlaa
