/- Plain facts about UTF-8: the bytes behind a rune's first byte, and that a rune of a valid text is encoded as it stood. -/
import Derived.Lib.DecodeN
import Derived.Lib.ValidLaws
import Derived.Lib.RuneBytes
namespace Go.Proofs.YtfdmeinfjfmnlaaDoor
open Go

/-- The width of a rune, and the bytes behind its first one. -/
theorem decodeN_tail (n b0 b1 b2 b3 : Nat) (h1 : b1 < 256) (h2 : b2 < 256) (h3 : b3 < 256) :
    1 ≤ (Lib.decodeN n b0 b1 b2 b3).2 ∧ (Lib.decodeN n b0 b1 b2 b3).2 ≤ 4 ∧ (1 ≤ n → (Lib.decodeN n b0 b1 b2 b3).2 ≤ n) ∧ (1 < (Lib.decodeN n b0 b1 b2 b3).2 → 128 ≤ b0 ∧ 128 ≤ b1) ∧ (2 < (Lib.decodeN n b0 b1 b2 b3).2 → 128 ≤ b2) ∧ (3 < (Lib.decodeN n b0 b1 b2 b3).2 → 128 ≤ b3) := by
  unfold Lib.decodeN
  repeat' split
  all_goals (simp only []; omega)

theorem decode_tail (s : ByteArray) (pos j : Nat) (h : 1 ≤ j) (hj : j < (Utf8.decode s pos).2) : 128 ≤ (s.get! (pos + j)).toNat := by
  rw [Lib.decode_at] at hj
  obtain ⟨a1, a2, a3, a4, a5, a6⟩ := decodeN_tail (s.size - pos) (s.get! pos).toNat (s.get! (pos + 1)).toNat (s.get! (pos + 2)).toNat (s.get! (pos + 3)).toNat (s.get! (pos + 1)).toNat_lt (s.get! (pos + 2)).toNat_lt (s.get! (pos + 3)).toNat_lt
  obtain rfl | rfl | rfl : j = 1 ∨ j = 2 ∨ j = 3 := by omega
  · exact (a4 hj).2
  · exact a5 hj
  · exact a6 hj
theorem decode_fits (s : ByteArray) (pos : Nat) (h : pos < s.size) : 1 ≤ (Utf8.decode s pos).2 ∧ pos + (Utf8.decode s pos).2 ≤ s.size := by
  rw [Lib.decode_at]
  obtain ⟨a1, a2, a3, a4, a5, a6⟩ := decodeN_tail (s.size - pos) (s.get! pos).toNat (s.get! (pos + 1)).toNat (s.get! (pos + 2)).toNat (s.get! (pos + 3)).toNat (s.get! (pos + 1)).toNat_lt (s.get! (pos + 2)).toNat_lt (s.get! (pos + 3)).toNat_lt
  have := a3 (by omega)
  omega

/-- What a rune that was decoded without error is encoded as. -/
def takeN (w b0 b1 b2 b3 : Nat) : List Nat := [b0, b1, b2, b3].take w
set_option maxHeartbeats 1000000 in
theorem encode_decodeN (n b0 b1 b2 b3 : Nat) (h0 : b0 < 256) (h1 : b1 < 256) (h2 : b2 < 256) (_h3 : b3 < 256)
    (hv : ¬ ((Lib.decodeN n b0 b1 b2 b3).1 = 65533 ∧ (Lib.decodeN n b0 b1 b2 b3).2 = 1)) :
    Lib.encodeRuneZ ((Lib.decodeN n b0 b1 b2 b3).1 : Nat) = (takeN (Lib.decodeN n b0 b1 b2 b3).2 b0 b1 b2 b3).map (fun x : Nat => (x : Int)) := by
  unfold Lib.decodeN at hv ⊢
  by_cases c0 : b0 < 128
  · simp only [if_pos c0]
    rw [Lib.encodeRuneZ_one (by omega) (by omega)]
    rfl
  simp only [if_neg c0] at hv ⊢
  by_cases c1 : b0 / 32 = 6 ∧ (1 < n ∧ b1 / 64 = 2)
  · simp only [if_pos c1] at hv ⊢
    by_cases d1 : b0 % 32 * 64 + b1 % 64 ≥ 128
    · simp only [if_pos d1]
      rw [Lib.encodeRuneZ_two (by omega) (by omega)]
      simp only [takeN, List.take, List.map_cons, List.map_nil, List.cons.injEq, and_true]
      omega
    · simp only [if_neg d1] at hv
      exact absurd hv (by simp)
  simp only [if_neg c1] at hv ⊢
  by_cases c2 : b0 / 16 = 14 ∧ (1 < n ∧ b1 / 64 = 2) ∧ (2 < n ∧ b2 / 64 = 2)
  · simp only [if_pos c2] at hv ⊢
    split at hv
    · rename_i d1
      rw [if_pos d1]
      rw [Lib.encodeRuneZ_three (by omega)]
      simp only [takeN, List.take, List.map_cons, List.map_nil, List.cons.injEq, and_true]
      omega
    · exact absurd hv (by simp)
  simp only [if_neg c2] at hv ⊢
  by_cases c3 : b0 / 8 = 30 ∧ (1 < n ∧ b1 / 64 = 2) ∧ (2 < n ∧ b2 / 64 = 2) ∧ (3 < n ∧ b3 / 64 = 2)
  · simp only [if_pos c3] at hv ⊢
    split at hv
    · rename_i d1
      rw [if_pos d1]
      rw [Lib.encodeRuneZ_four (by omega) (by omega)]
      simp only [takeN, List.take, List.map_cons, List.map_nil, List.cons.injEq, and_true]
      omega
    · exact absurd hv (by simp)
  · simp only [if_neg c3] at hv
    exact absurd hv (by simp)

theorem get_list (s : ByteArray) (i : Nat) (h : i < s.size) : s.get! i = s.data.toList.getD i 0 := by
  cases s with | mk d =>
  have h' : i < d.size := h
  show d[i]! = _
  rw [getElem!_pos d i h']
  simp [List.getD, h']
/-- The rune at place pos, over the rest of the bytes. -/
theorem decode_drop (s : ByteArray) (pos : Nat) (h : pos < s.size) : Lib.decodeL (s.data.toList.drop pos) = Utf8.decode s pos := by
  have hz : (⟨(s.data.toList.drop pos).toArray⟩ : ByteArray).size = s.size - pos := by
    show (s.data.toList.drop pos).toArray.size = _
    simp
  have hg : ∀ j, j < s.size - pos → (⟨(s.data.toList.drop pos).toArray⟩ : ByteArray).get! j = s.get! (pos + j) := by
    intro j hj
    rw [get_list _ j (by omega), get_list s (pos + j) (by omega)]
    simp [List.getD]
  unfold Lib.decodeL
  rw [Lib.decode_at, Lib.decode_at, hz]
  simp only [Nat.zero_add, Nat.sub_zero]
  have e0 := hg 0 (by omega)
  simp only [Nat.add_zero] at e0
  rw [e0]
  unfold Lib.decodeN
  by_cases h1 : 1 < s.size - pos
  · rw [hg 1 h1]
    by_cases h2 : 2 < s.size - pos
    · rw [hg 2 h2]
      by_cases h3 : 3 < s.size - pos
      · rw [hg 3 h3]
      · simp only [h3, false_and, and_false, if_false]
    · have h3 : ¬ 3 < s.size - pos := by omega
      simp only [h2, h3, false_and, and_false, if_false]
  · have h2 : ¬ 2 < s.size - pos := by omega
    have h3 : ¬ 3 < s.size - pos := by omega
    simp only [h1, h2, h3, false_and, and_false, if_false]

/-- Valid from place pos on: the rune there is none of the error's, and what follows it is valid. -/
theorem valid_at (s : ByteArray) (pos : Nat) (h : pos < s.size) (hv : Lib.validD (s.data.toList.drop pos) = true) :
    ¬ ((Utf8.decode s pos).1 = 65533 ∧ (Utf8.decode s pos).2 = 1) ∧ Lib.validD (s.data.toList.drop (pos + (Utf8.decode s pos).2)) = true := by
  have hne : s.data.toList.drop pos ≠ [] := by
    intro e
    have := congrArg List.length e
    have hs : s.data.toList.length = s.size := rfl
    simp only [List.length_drop, List.length_nil] at this
    omega
  rw [Lib.validD_step _ hne, decode_drop s pos h] at hv
  split at hv
  · cases hv
  · rename_i hn
    rw [List.drop_drop] at hv
    exact ⟨hn, hv⟩

theorem encode_at (s : ByteArray) (pos : Nat) (h : pos < s.size) (hv : ¬ ((Utf8.decode s pos).1 = 65533 ∧ (Utf8.decode s pos).2 = 1)) :
    Lib.encodeRune ((Utf8.decode s pos).1 : Nat) = (s.data.toList.drop pos).take (Utf8.decode s pos).2 := by
  have hf := decode_fits s pos h
  rw [Lib.decode_at] at hv hf ⊢
  have hw := decodeN_tail (s.size - pos) (s.get! pos).toNat (s.get! (pos + 1)).toNat (s.get! (pos + 2)).toNat (s.get! (pos + 3)).toNat (s.get! (pos + 1)).toNat_lt (s.get! (pos + 2)).toNat_lt (s.get! (pos + 3)).toNat_lt
  unfold Lib.encodeRune
  rw [encode_decodeN _ _ _ _ _ (s.get! pos).toNat_lt (s.get! (pos + 1)).toNat_lt (s.get! (pos + 2)).toNat_lt (s.get! (pos + 3)).toNat_lt hv]
  obtain ⟨w, hwd⟩ : ∃ w, (Lib.decodeN (s.size - pos) (s.get! pos).toNat (s.get! (pos + 1)).toNat (s.get! (pos + 2)).toNat (s.get! (pos + 3)).toNat).2 = w := ⟨_, rfl⟩
  rw [hwd] at hf hw ⊢
  have hl : s.data.toList.length = s.size := rfl
  apply List.ext_getElem
  · simp only [takeN, List.length_map, List.length_take, List.length_drop, List.length_cons, List.length_nil]
    omega
  · intro i i1 i2
    simp only [takeN, List.length_map, List.length_take, List.length_cons, List.length_nil] at i1
    have hi : pos + i < s.size := by omega
    have e : (s.data.toList.drop pos).take w = (s.data.toList.drop pos).take w := rfl
    simp only [takeN, List.getElem_map, List.getElem_take, List.getElem_drop]
    have hg : s.data.toList[pos + i] = s.get! (pos + i) := by
      rw [get_list s _ hi]
      simp [List.getD, hi]
    rw [hg]
    obtain rfl | rfl | rfl | rfl : i = 0 ∨ i = 1 ∨ i = 2 ∨ i = 3 := by omega
    all_goals simp
end Go.Proofs.YtfdmeinfjfmnlaaDoor
