/- Contract of slices.Concat at bytes. -/
import Derived.Test.YtkmnmddengnjlaaWSlices
namespace Go.Proofs.Ytkmnmddengnjlaa
open Go Go.RowKit

theorem flat_take (l : List (List UInt8)) (i : Nat) (h : i < l.length) : (l.take (i + 1)).flatten = (l.take i).flatten ++ l[i] := by
  rw [List.take_succ_eq_append_getElem h, List.flatten_append]
  simp
theorem flat_le (l : List (List UInt8)) (i : Nat) : (l.take i).flatten.length ≤ l.flatten.length := by
  have h := congrArg List.length (congrArg List.flatten (List.take_append_drop i l))
  rw [List.flatten_append, List.length_append] at h
  omega
/-- How many bytes they are together. -/
def tot (l : List (List UInt8)) : Nat := l.flatten.length
set_option maxHeartbeats 8000000 in
theorem concat_any (a0 : Option Addr) (fs : List (List UInt8)) (cap : Nat) (w : World) (hl : fs.length ≤ 1000) (hf : fs.flatten.length ≤ 1000000) (hF : FieldsAre a0 fs w) :
    Calls Try.prog 51 #[.slice a0 (fs.length : Nat) cap] w (MadeOwn fs.flatten w) := by
  go_enter Try.func51, Try.ntmps51
  go_wp2
  go_loop [3, 11] (fun s i => ∃ n : Nat, n ≤ fs.length ∧ i = .int .i64 n ∧ s = .int .i64 (tot (fs.take n) : Nat)) (fun _ i => fs.length - (intOf i).toNat)
  case atStart => exact ⟨0, Nat.zero_le _, rfl, rfl⟩
  case round =>
    obtain ⟨n, hn, rfl, rfl⟩ := hrel
    by_cases hlt : n < fs.length
    · obtain ⟨b, off, a1, c1, rfl, hbk, hc, hnc, _, hby⟩ := hF n hlt
      have h1 := flat_take fs n hlt
      have h2 := flat_le fs (n + 1)
      have h3 : tot (fs.take (n + 1)) = tot (fs.take n) + fs[n].length := by unfold tot; rw [h1, List.length_append]
      change tot _ ≤ _ at h2
      have H : Hid ((tot (fs.take (n + 1)) : Int) = (tot (fs.take n) : Int) + (fs[n].length : Int)) := Lib.hid (by omega)
      generalize tot (fs.take n) = q at h3 H ⊢
      generalize fs[n].length = m at h3 H hc ⊢
      have hlt' : (n : Int) < (fs.length : Int) := by omega
      have hs0 : ¬ ((q : Int) + (m : Int) < 0) := by omega
      have hqm : (q : Int) + (m : Int) ≤ 1000000 := by omega
      clear h1 h2 h3 hby hnc
      go_wp2
      go_round
      case rel => exact ⟨n + 1, by omega, by go_num, by rw [H.out]⟩
      case measure => simp [intOf]; omega
    · obtain rfl : n = fs.length := by omega
      rw [List.take_of_length_le (Nat.le_refl _)]
      have hq : tot fs ≤ 1000000 := hf
      generalize tot fs = q at hq ⊢
      go_wp2_with (go_at_call 53; refine (grow_nil q _ hq).mono ?_; rintro e w1 ⟨v1, rfl, hown0, hb0⟩)
      go_loopw [6, 27] (fun v i wr => ∃ n : Nat, n ≤ fs.length ∧ i = .int .i64 n ∧ Own w.heap.size v ((fs.take n).flatten) wr ∧ Below w.heap.size w wr) (fun _ i _ => fs.length - (intOf i).toNat)
      case atStart => exact ⟨0, Nat.zero_le _, rfl, hown0, hb0⟩
      case round =>
        obtain ⟨n, hn, rfl, hown, hbl⟩ := hrel
        by_cases hlt : n < fs.length
        · obtain ⟨b, off, a1, c1, rfl, hbk, hc, hnc, _, hby⟩ := hF n hlt
          have h1 := flat_take fs n hlt
          have h2 := flat_le fs (n + 1)
          rw [h1, List.length_append] at h2
          have hcw := hbl.cell (p := ⟨b, off + n, none⟩) hbk
          rw [hc] at hcw
          have hby1 := hby.below (Nat.le_refl _) hbl
          have hsz := hbl.size
          have H := Lib.hid h1
          generalize (fs.take n).flatten = L at hown h2 H
          generalize fs[n] = f at hby1 hcw H h2
          have hlt' : (n : Int) < (fs.length : Int) := by omega
          have hlf : L.length + f.length ≤ 140737488355328 := by omega
          clear h1 hc hby hown0 hb0
          replace hbl := Lib.hid hbl
          go_wp2_with (at_builtin; refine wpList_ownL rfl _ _ rfl f a1 c1 hown rfl rfl hnc hby1 hlf hsz ?_)
          intro v2 w2 hown2 hb2
          go_wp2
          go_roundw
          case rel => exact ⟨n + 1, by omega, by go_num, by rw [H.out]; exact hown2, hbl.out.trans hb2⟩
          case measure => simp [intOf]; omega
        · obtain rfl : n = fs.length := by omega
          rw [List.take_of_length_le (Nat.le_refl _)] at hown
          go_wp2
          go_ret
          exact ⟨_, rfl, hown, hbl⟩
end Go.Proofs.Ytkmnmddengnjlaa
