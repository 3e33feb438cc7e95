/- Contract of the law's awake: it is true. -/
import Derived.Test.YtkmnmddengnjlaaWDraw
import Derived.Test.YtkmnmddengnjlaaWQText
namespace Go.Proofs.Ytkmnmddengnjlaa
open Go Go.RowKit

theorem src_made (l : List UInt8) (w : World) : Src (some ⟨w.heap.size, 0, none⟩) l l.length (w.alloc (.cells (l.map fun c => Value.int .u8 (c.toNat : Int)).toArray 5)) := by
  refine ⟨by simp, Nat.le_refl _, fun i hi => ⟨w.heap.size, 0, rfl, by simp, ?_⟩⟩
  rw [Lib.cell_of_heap (heap_alloc_new w _)]
  simp [hi]
theorem src_nil (w : World) : Src none [] 0 w := ⟨fun _ => rfl, by simp, fun i hi => by simp at hi⟩
theorem numB_64 : numB 64 = [128, 1] := by
  unfold numB
  rw [show zz 64 = 128 from rfl, grp_big (by omega), grp_small (by omega)]
  rfl
theorem numB_m1 : numB (-1) = [1] := by
  unfold numB
  rw [show zz (-1) = 1 from rfl, grp_small (by omega)]
  rfl
theorem numR_example : numR [6, 97, 98, 99] 0 = (3, [97, 98, 99], 0) := by
  unfold numR
  rw [if_pos rfl, show readG 0 0 [6, 97, 98, 99] = (6, 1, 0) from rfl]
  rfl
theorem textR_example : textR 2 [6, 97, 98, 99] 0 = (⟨#[]⟩, [97, 98, 99], 4) := by
  exact textR_long numR_example (by omega) (by omega)
theorem BytesAre.two {a : Option Addr} {x y : UInt8} {w : World} (h : BytesAre a [x, y] w) : ∃ b off, a = some ⟨b, off, none⟩ ∧ b < w.heap.size ∧ w.cell? ⟨b, off, none⟩ = some (.int .u8 (x.toNat : Int)) ∧ w.cell? ⟨b, off + 1, none⟩ = some (.int .u8 (y.toNat : Int)) := by
  obtain ⟨b, off, rfl, hb, h0⟩ := h 0 (by simp)
  obtain ⟨b', off', he, hb', h1⟩ := h 1 (by simp)
  cases he
  exact ⟨b, off, rfl, hb, h0, h1⟩
theorem BytesAre.string {a : Option Addr} {l : List UInt8} {w : World} (h : BytesAre a l w) (c : Nat) :
    (convert 22 9 (.slice a (l.length : Nat) c)).run Try.prog w = .ok (.string ⟨l.toArray⟩) w :=
  BIn.string (lo := 0) (hi := w.heap.size) ⟨Nat.le_refl _, fun i hi => by
    obtain ⟨b, off, h1, h2, h3⟩ := h i hi
    exact ⟨b, off, h1, Nat.zero_le _, h2, h3⟩⟩ c
set_option maxHeartbeats 8000000 in
theorem awake_any (w : World) : Calls Try.prog 9 #[] w fun e w' => e = .returned (.bool true) ∧ Below w.heap.size w w' := by
  have hN := new_any (w := w.alloc (.cells #[.int .u8 6, .int .u8 97, .int .u8 98, .int .u8 99] 5)) (l := [6, 97, 98, 99]) (by simp) (src_made [6, 97, 98, 99] w)
  have hb0 : Below w.heap.size w (w.alloc (.cells #[.int .u8 6, .int .u8 97, .int .u8 98, .int .u8 99] 5)) := (Below.refl _ w).alloc (Nat.le_refl _) _
  replace hN := Lib.hid hN
  go_enter Try.func9, Try.ntmps9
  go_wp2_with (go_at_call 19; refine hN.out.mono ?_)
  rintro en w1 ⟨R, rfl, hR, hrd, hb1⟩
  have hsz := hb0.size
  have hT := text_any 2 hrd
  rw [textR_example] at hT
  replace hT := Lib.hid hT
  have hb01 := hb0.trans (hb1.mono hsz)
  go_wp2_with (go_at_call 31; refine hT.out.mono ?_)
  rintro en w2 ⟨rfl, hk2, hrd2⟩
  have hsz1 := hb01.size
  have hb2 : Below w.heap.size w w2 := hb01.trans (hk2.below (by omega) hsz1)
  have hP := Lib.hid (numB_64 ▸ putNumber_any none [] 0 64 w2 (by simp) (src_nil _) (by omega) (by omega))
  go_wp2_with (go_at_call 10; refine hP.out.mono ?_)
  rintro en w3 ⟨a3, c3, rfl, _, k3, _, hby, hb3⟩
  obtain ⟨bb, off, rfl, hbb, d0, d1⟩ := hby.two
  have hc3 : 2 ≤ c3 := k3
  have hE := err_any (hrd2.kept (Kept.of_below (C := w3.heap.size) hb3) (.inr (by have := hrd2.lt; have := hb3.size; omega)) hR)
  have hP2 := Lib.hid (numB_m1 ▸ putNumber_any none [] 0 (-1) w3 (by simp) (src_nil _) (by omega) (by omega))
  replace hE := Lib.hid hE
  clear k3 hby
  go_wp2_with (go_at_call 27; refine hE.out.mono ?_; rintro en w4 ⟨rfl, rfl⟩)
  go_wp2_with (go_at_call 10; refine hP2.out.mono ?_)
  rintro en w5 ⟨a5, c5, rfl, _, k5, _, hby5, hb5⟩
  have hs5 := hby5.string c5
  have e0 := hb5.cell (p := ⟨bb, off, none⟩) hbb
  have e1 := hb5.cell (p := ⟨bb, off + 1, none⟩) hbb
  rw [d0] at e0
  rw [d1] at e1
  have hs5' : (convert 22 9 (.slice a5 1 c5)).run Try.prog w5 = .ok (.string ⟨#[1]⟩) w5 := hs5
  have e0' : w5.cell? ⟨bb, off, none⟩ = some (.int .u8 128) := e0
  have e1' : w5.cell? ⟨bb, off + 1, none⟩ = some (.int .u8 1) := e1
  clear hs5 e0 e1 hby5 k5
  have hz2 := hb2.size
  have hz3 := hb3.size
  go_wp2
  go_ret
  exact ⟨rfl, hb2.trans ((hb3.trans (hb5.mono hz3)).mono hz2)⟩
end Go.Proofs.Ytkmnmddengnjlaa
