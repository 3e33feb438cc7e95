/- Contracts of the functions on reserved words and keys, of package text and of the document's answers. -/
import Derived.Test.YtfdmeinfjfmnlaaDoorSmall
namespace Go.Proofs.YtfdmeinfjfmnlaaDoor
open Go Go.RowKit

theorem bytes_yes {x y : ByteArray} (h : x = y) : (x.toList == y.toList) = true := by subst h; simp
theorem bytes_no {x y : ByteArray} (h : ¬ x = y) : (x.toList == y.toList) = false := by
  simp only [ByteArray.toList_eq, beq_eq_false_iff_ne, ne_eq]
  intro e
  apply h
  cases x; cases y
  simp at e
  rw [e]

/-- What the variable of the reserved words holds: a slice over a row of strings. -/
structure Res (W : List ByteArray) (w : World) : Prop where
  ex : ∃ b off, b < w.heap.size ∧ w.cell? ⟨0, 0, none⟩ = some (.slice (some ⟨b, off, none⟩) W.length W.length) ∧ ∀ (i : Nat) (h : i < W.length), w.cell? ⟨b, off + i, none⟩ = some (.string W[i])

theorem take_mem_succ (W : List ByteArray) (s : ByteArray) (k : Nat) (h : k < W.length) (h1 : s ∉ W.take k) (h2 : s ≠ W[k]) : s ∉ W.take (k + 1) := by
  rw [List.take_succ_eq_append_getElem h, List.mem_append]
  rintro (h3 | h3)
  · exact h1 h3
  · exact h2 (by simpa using h3)

/-- A text is one of these words. -/
def isIn (W : List ByteArray) (s : ByteArray) : Bool := W.any fun x => s.toList == x.toList
theorem isIn_yes {W : List ByteArray} {s : ByteArray} (h : s ∈ W) : isIn W s = true := List.any_eq_true.2 ⟨s, h, bytes_yes rfl⟩
theorem isIn_no {W : List ByteArray} {s : ByteArray} (h : s ∉ W) : isIn W s = false := by
  unfold isIn
  rw [List.any_eq_false]
  intro x hx
  have : ¬ s = x := fun e => h (e ▸ hx)
  rw [bytes_no this]
  simp
theorem ret_bool {a b : Bool} (h : a = b) : Ending.returned (.bool a) = .returned (.bool b) := by rw [h]

set_option maxHeartbeats 1000000 in
theorem isReserved_any (W : List ByteArray) (hW : W.length ≤ 1000) (s : ByteArray) (w : World) (hR : Res W w) :
    Calls Tryd.prog 28 #[.string s] w fun e w' => e = .returned (.bool (isIn W s)) ∧ w = w' := by
  obtain ⟨b, off, hb, hg, hcell⟩ := hR.ex
  go_enter Tryd.func28, Tryd.ntmps28
  go_wp2
  go_loop [7] (fun i => ∃ k : Nat, k ≤ W.length ∧ i = .int .i64 k ∧ s ∉ W.take k) (fun i => W.length - (intOf i).toNat)
  case atStart => exact ⟨0, Nat.zero_le _, rfl, by simp⟩
  case round =>
    obtain ⟨k, hk, rfl, hno⟩ := hrel
    by_cases hlt : k < W.length
    · have hc := hcell k hlt
      by_cases hs : s = W[k]
      · have hq : (s.toList == W[k].toList) = true := bytes_yes hs
        have hm : s ∈ W := by rw [hs]; exact List.getElem_mem hlt
        replace hs := Lib.hid hs
        go_wp2
        go_ret
        exact ⟨ret_bool (isIn_yes hm).symm, rfl⟩
      · have hq : (s.toList == W[k].toList) = false := bytes_no hs
        go_wp2
        go_round
        case rel => exact ⟨k + 1, by omega, by go_num, take_mem_succ W s k hlt hno hs⟩
        case measure => simp [intOf]; omega
    · go_wp2
      go_ret
      rw [List.take_of_length_le (by omega)] at hno
      exact ⟨ret_bool (isIn_no hno).symm, rfl⟩

/-- The sign at place i fits a word. -/
def okAt (c i : Nat) : Prop := (97 ≤ c ∧ c ≤ 122) ∨ (i ≠ 0 ∧ ((48 ≤ c ∧ c ≤ 57) ∨ c = 45 ∨ c = 95))
instance (c i : Nat) : Decidable (okAt c i) := by unfold okAt; infer_instance
def wordTo (s : ByteArray) (k : Nat) : Prop := ∀ i, i < k → okAt (s.get! i).toNat i
instance (s : ByteArray) (k : Nat) : Decidable (wordTo s k) := by unfold wordTo; infer_instance
def wordP (s : ByteArray) : Prop := 0 < s.size ∧ wordTo s s.size
instance (s : ByteArray) : Decidable (wordP s) := by unfold wordP; infer_instance
theorem get_bang (s : ByteArray) (k : Nat) (h : k < s.size) : s.get! k = s[k] := by
  cases s with | mk d =>
  show d[k]! = d[k]
  simp [getElem!_pos d k h]
theorem wordTo_succ {s : ByteArray} {k : Nat} (h : wordTo s k) (hk : okAt (s.get! k).toNat k) : wordTo s (k + 1) := fun i hi => by
  rcases Nat.lt_succ_iff_lt_or_eq.1 hi with h1 | rfl
  · exact h i h1
  · exact hk
theorem not_wordP {s : ByteArray} {k : Nat} (h : k < s.size) (hk : ¬ okAt (s.get! k).toNat k) : ¬ wordP s := fun h' => hk (h'.2 k h)

set_option maxHeartbeats 1000000 in
theorem refWord_any (s : ByteArray) (w : World) (hs : s.size ≤ 9223372036854775807) :
    Calls Tryd.prog 29 #[.string s] w fun e w' => e = .returned (.bool (decide (wordP s))) ∧ w = w' := by
  go_enter Tryd.func29, Tryd.ntmps29
  go_wp2
  go_loop [3] (fun i => ∃ k : Nat, k ≤ s.size ∧ i = .int .i64 k ∧ wordTo s k) (fun i => s.size - (intOf i).toNat)
  case atStart => exact ⟨0, Nat.zero_le _, rfl, fun i hi => by omega⟩
  case round =>
    obtain ⟨k, hk, rfl, hno⟩ := hrel
    by_cases hlt : k < s.size
    · have hg := get_bang s k hlt
      have hb := (s.get! k).toNat_lt
      by_cases hok : okAt (s.get! k).toNat k
      · have hnext := wordTo_succ hno hok
        replace hno := Lib.hid hno
        replace hnext := Lib.hid hnext
        rw [hg] at hok hb
        unfold okAt at hok
        replace hok := Lib.hid hok
        clear hg
        go_wp2
        all_goals first
          | (go_round
             case rel => exact ⟨k + 1, by omega, by first | go_num | (subst_vars; rfl), hnext.out⟩
             case measure => simp [intOf]; omega)
          | (exfalso
             have h' := hok.out
             simp_all
             try omega)
      · have hnot := not_wordP hlt hok
        replace hno := Lib.hid hno
        replace hnot := Lib.hid hnot
        rw [hg] at hok hb
        unfold okAt at hok
        replace hok := Lib.hid hok
        clear hg
        go_wp2
        all_goals first
          | (go_ret
             exact ⟨ret_bool (decide_eq_false hnot.out).symm, rfl⟩)
          | (exfalso
             have h' := hok.out
             simp_all
             try omega)
    · obtain rfl : k = s.size := by omega
      replace hno := Lib.hid hno
      go_wp2
      go_ret
      refine ⟨ret_bool ?_, rfl⟩
      have := hno.out
      by_cases h0 : 0 < s.size
      · rw [decide_eq_true (show wordP s from ⟨h0, this⟩)]; simp [h0]
      · rw [decide_eq_false (show ¬ wordP s from fun h => h0 h.1)]; simp [h0]
end Go.Proofs.YtfdmeinfjfmnlaaDoor
