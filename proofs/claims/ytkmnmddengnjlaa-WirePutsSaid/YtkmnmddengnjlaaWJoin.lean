/- Contracts of slices.Clone at bytes, of the package's join, fold and groups. -/
import Derived.Test.YtkmnmddengnjlaaWConcat
import Derived.Test.YtkmnmddengnjlaaWGrp
import Derived.Lib.SliceRun
import Derived.BigRegion
import Derived.Deep.RegionWith
import Derived.Deep.DeepFit
import Derived.IntWalk
import Derived.Deep.DeepCutAuto
namespace Go.Proofs.Ytkmnmddengnjlaa
open Go Go.RowKit

theorem own_empty (w : World) : Own w.heap.size (.slice (some ⟨w.heap.size, 0, none⟩) 0 0) [] (w.alloc (.cells #[] 5)) :=
  ⟨rfl, .inr ⟨w.heap.size, 0, #[], rfl, Nat.le_refl _, heap_alloc_new w _, Nat.le_refl _, Nat.zero_le _, rfl, rfl⟩⟩
/-- A row of the call's own has a capacity that Go bears. -/
theorem Own.fits {B : Nat} {v : Value} {l : List UInt8} {w : World} (h : Own B v l w) : ∃ (a1 : Option Addr) (c1 : Nat), v = .slice a1 l.length c1 ∧ (a1 = none → c1 = 0) ∧ l.length ≤ c1 ∧ c1 ≤ 9223372036854775807 ∧ BytesAre a1 l w := by
  obtain ⟨a1, c1, rfl, h1, h2, h3⟩ := h.shape
  refine ⟨a1, c1, rfl, h1, h2, ?_, h3⟩
  rcases h.2 with ⟨hv, _⟩ | ⟨g, cap, cur, hv, _, _, _, hc, _⟩
  · injection hv with _ _ e
    omega
  · injection hv with _ _ e
    unfold maxLen at hc
    omega
set_option maxHeartbeats 4000000 in
theorem clone_own (a0 : Option Addr) (l : List UInt8) (cap : Nat) (w : World) (hl : l.length ≤ 1000000) (hn : a0 = none → cap = 0) (hB : BytesAre a0 l w) :
    Calls Try.prog 36 #[.slice a0 (l.length : Nat) cap] w (MadeOwn l w) := by
  have q := fun (w : World) (a : Option Addr) (n c : Nat) => Lib.run_eql_slice_nil (P := Try.prog) w 22 5 a n c 0 0 Try.underlying22
  cases a0 with
  | none =>
    obtain rfl : l = [] := by
      cases l with
      | nil => rfl
      | cons c t => obtain ⟨b, off, he, _⟩ := hB 0 (by simp); cases he
    obtain rfl : cap = 0 := hn rfl
    show Calls _ _ #[.slice none 0 0] _ _
    go_enter Try.func36, Try.ntmps36
    go_wp2
    go_ret
    exact ⟨_, rfl, own_nil _ _, Below.refl _ _⟩
  | some a =>
    have hown := own_empty w
    have hb0 : Below w.heap.size w (w.alloc (.cells #[] 5)) := (Below.refl _ w).alloc (Nat.le_refl _) _
    have hB1 := hB.below (Nat.le_refl _) hb0
    have hlf : ([] : List UInt8).length + l.length ≤ 140737488355328 := by simp; omega
    have hsz := hb0.size
    go_enter Try.func36, Try.ntmps36
    go_wp2_with (at_builtin; refine wpList_ownL rfl _ _ rfl l (some a) cap hown rfl rfl hn hB1 hlf hsz ?_)
    intro v2 w2 hown2 hb2
    go_wp2
    go_ret
    exact ⟨_, rfl, hown2, hb0.trans hb2⟩
theorem join_any (a0 : Option Addr) (fs : List (List UInt8)) (cap : Nat) (w : World) (hl : fs.length ≤ 1000) (hf : fs.flatten.length ≤ 1000000) (hF : FieldsAre a0 fs w) :
    Calls Try.prog 34 #[.slice a0 (fs.length : Nat) cap] w (MadeB fs.flatten w) := by
  have hc := concat_any a0 fs cap w hl hf hF
  generalize fs.flatten = l at hc hf ⊢
  have hc := Lib.hid hc
  generalize fs.length = n at hc ⊢
  go_enter Try.func34, Try.ntmps34
  go_wp2_with (go_at_call 51; refine hc.out.mono ?_)
  rintro e w1 ⟨v1, rfl, hown, hb⟩
  obtain ⟨a1, c1, rfl, h1, h2, h3, h4⟩ := hown.fits
  go_wp2_with (go_at_call 50; refine (clip_any a1 l.length c1 _ h2).mono ?_; rintro e w2 ⟨rfl, rfl⟩)
  go_ret
  exact ⟨a1, l.length, rfl, fun h => by have := h1 h; omega, Nat.le_refl _, by omega, h4, hb⟩
end Go.Proofs.Ytkmnmddengnjlaa
