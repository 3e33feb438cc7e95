/- What a text is: keys, validity, quotation marks, decimal numbers; plain definitions and laws, of no program. What the parts of a version are: plain definitions and laws, of no program. What a value is, and which error it has: plain definitions and laws, of no program. What a subject is, and which error it has: plain definitions and laws, of no program. The pieces of a text between its first two periods: plain laws, of no program. The end of a quoted text: plain laws, of no program. The canonical text of contexts, and that it tells the kinds and keys: plain laws, of no program. -/
import Derived.WalkKit
import Derived.WalkMore
import Derived.LoopTactic
import Derived.Lib.Hide
import Derived.Outline
import Derived.Below
import Derived.Lib.OthersKept
import Derived.Lib.DecodeN
import Derived.Lib.ValidLaws
import Derived.Lib.RuneBytes
import Derived.Lib.ItoaLen
import Derived.Lib.AppendIntMem
import Derived.Lib.Bytealg
/- What a text is: keys, validity, quotation marks, decimal numbers; plain definitions and laws, of no program. -/
namespace Go.Proofs.YtcbnefeedoabeaaGreatDoor
open Go Go.RowKit

def letB (r : Int) : Bool := decide (97 ≤ r) && decide (r ≤ 122)
def digB (r : Int) : Bool := decide (48 ≤ r) && decide (r ≤ 57)
def escB (r : Int) : Bool := r == 34 || r == 92

theorem bytes_yes {x y : ByteArray} (h : x = y) : (x.toList == y.toList) = true := by subst h; simp
theorem bytes_no {x y : ByteArray} (h : ¬ x = y) : (x.toList == y.toList) = false := by
  simp only [ByteArray.toList_eq, beq_eq_false_iff_ne, ne_eq]
  intro e
  apply h
  cases x; cases y
  simp at e
  rw [e]

theorem take_mem_succ (W : List ByteArray) (s : ByteArray) (k : Nat) (h : k < W.length) (h1 : s ∉ W.take k) (h2 : s ≠ W[k]) : s ∉ W.take (k + 1) := by
  rw [List.take_succ_eq_append_getElem h, List.mem_append]
  rintro (h3 | h3)
  · exact h1 h3
  · exact h2 (by simpa using h3)

/-- A text is one of these words. -/
def isIn (W : List ByteArray) (s : ByteArray) : Bool := W.any fun x => s.toList == x.toList
theorem isIn_yes {W : List ByteArray} {s : ByteArray} (h : s ∈ W) : isIn W s = true := List.any_eq_true.2 ⟨s, h, bytes_yes rfl⟩
theorem isIn_no {W : List ByteArray} {s : ByteArray} (h : s ∉ W) : isIn W s = false := by
  unfold isIn
  rw [List.any_eq_false]
  intro x hx
  have : ¬ s = x := fun e => h (e ▸ hx)
  rw [bytes_no this]
  simp
theorem ret_bool {a b : Bool} (h : a = b) : Ending.returned (.bool a) = .returned (.bool b) := by rw [h]

/-- The sign at place i fits a word. -/
def okAt (c i : Nat) : Prop := (97 ≤ c ∧ c ≤ 122) ∨ (i ≠ 0 ∧ ((48 ≤ c ∧ c ≤ 57) ∨ c = 45 ∨ c = 95))
instance (c i : Nat) : Decidable (okAt c i) := by unfold okAt; infer_instance
def wordTo (s : ByteArray) (k : Nat) : Prop := ∀ i, i < k → okAt (s.get! i).toNat i
instance (s : ByteArray) (k : Nat) : Decidable (wordTo s k) := by unfold wordTo; infer_instance
def wordP (s : ByteArray) : Prop := 0 < s.size ∧ wordTo s s.size
instance (s : ByteArray) : Decidable (wordP s) := by unfold wordP; infer_instance
theorem get_bang (s : ByteArray) (k : Nat) (h : k < s.size) : s.get! k = s[k] := by
  cases s with | mk d =>
  show d[k]! = d[k]
  simp [getElem!_pos d k h]
theorem wordTo_succ {s : ByteArray} {k : Nat} (h : wordTo s k) (hk : okAt (s.get! k).toNat k) : wordTo s (k + 1) := fun i hi => by
  rcases Nat.lt_succ_iff_lt_or_eq.1 hi with h1 | rfl
  · exact h i h1
  · exact hk
theorem not_wordP {s : ByteArray} {k : Nat} (h : k < s.size) (hk : ¬ okAt (s.get! k).toNat k) : ¬ wordP s := fun h' => hk (h'.2 k h)

theorem okAt_rune (s : ByteArray) (pos : Nat) (h : pos < s.size) : okAt (s.get! pos).toNat pos ↔ okAt (Utf8.decode s pos).1 pos := by
  rw [get_bang s pos h]
  by_cases ha : (s[pos]'h).toNat < 128
  · rw [decode_ascii s pos h ha]
  · have := (decode_high s pos h (by omega)).1
    unfold okAt
    constructor <;> (intro h'; exfalso; omega)
theorem okAt_width (s : ByteArray) (pos : Nat) (h : pos < s.size) (hk : okAt (s.get! pos).toNat pos) : (Utf8.decode s pos).2 = 1 := by
  rw [get_bang s pos h] at hk
  rw [decode_ascii s pos h (by unfold okAt at hk; omega)]

/-- Whether a text is a key, given the reserved words. -/
def keyB (W : List ByteArray) (s : ByteArray) : Bool := decide (wordP s) && decide (s.size ≤ 32) && !isIn W s
theorem keyB_word {W : List ByteArray} {s : ByteArray} (h : ¬ wordP s) : keyB W s = false := by simp [keyB, h]
theorem keyB_long {W : List ByteArray} {s : ByteArray} (h : ¬ s.size ≤ 32) : keyB W s = false := by simp [keyB, h]
theorem keyB_rest {W : List ByteArray} {s : ByteArray} (h : wordP s) (h' : s.size ≤ 32) : keyB W s = !isIn W s := by simp [keyB, h, h']

/-- The reserved words, as the chapter lists them. -/
def words : List ByteArray := [⟨#[97, 110, 100]⟩, ⟨#[97, 114, 109, 115]⟩, ⟨#[97, 116, 116, 114, 105, 98, 117, 116, 101]⟩, ⟨#[98, 111, 111, 108]⟩, ⟨#[99, 108, 97, 105, 109, 115]⟩, ⟨#[99, 111, 110, 116, 97, 105, 110, 115]⟩, ⟨#[99, 111, 111, 108]⟩, ⟨#[99, 111, 111, 108, 105, 110, 103]⟩, ⟨#[100, 101, 102, 97, 117, 108, 116]⟩, ⟨#[100, 114, 97, 102, 116]⟩, ⟨#[101, 110, 100, 115]⟩, ⟨#[101, 120, 99, 108, 117, 100, 101]⟩, ⟨#[101, 120, 105, 115, 116, 115]⟩, ⟨#[101, 120, 112, 101, 114, 105, 109, 101, 110, 116]⟩, ⟨#[102, 97, 108, 115, 101]⟩, ⟨#[102, 108, 97, 103]⟩, ⟨#[104, 111, 108, 100, 111, 117, 116]⟩, ⟨#[105, 110]⟩, ⟨#[105, 110, 99, 108, 117, 100, 101]⟩, ⟨#[105, 115]⟩, ⟨#[108, 97, 121, 101, 114]⟩, ⟨#[108, 105, 115, 116]⟩, ⟨#[109, 101, 109, 98, 101, 114]⟩, ⟨#[110, 101, 101, 100, 115]⟩, ⟨#[110, 111, 116]⟩, ⟨#[110, 117, 109, 98, 101, 114]⟩, ⟨#[111, 102, 102]⟩, ⟨#[111, 110]⟩, ⟨#[111, 114]⟩, ⟨#[114, 117, 108, 101]⟩, ⟨#[114, 117, 110, 110, 105, 110, 103]⟩, ⟨#[115, 97, 108, 116]⟩, ⟨#[115, 101, 103, 109, 101, 110, 116]⟩, ⟨#[115, 101, 114, 118, 101]⟩, ⟨#[115, 101, 116, 116, 105, 110, 103, 115]⟩, ⟨#[115, 112, 108, 105, 116]⟩, ⟨#[115, 116, 97, 114, 116, 115]⟩, ⟨#[115, 116, 111, 112, 112, 101, 100]⟩, ⟨#[116, 97, 114, 103, 101, 116]⟩, ⟨#[116, 101, 120, 116]⟩, ⟨#[116, 111]⟩, ⟨#[116, 114, 117, 101]⟩, ⟨#[117, 110, 116, 105, 108]⟩, ⟨#[118, 97, 114, 105, 97, 116, 105, 111, 110, 115]⟩, ⟨#[118, 101, 114, 115, 105, 111, 110]⟩, ⟨#[119, 104, 101, 110]⟩]
theorem words_length : words.length = 46 := rfl

/-- A slice of strings that holds a list. -/
def StrsAt (v : Value) (W : List ByteArray) (w : World) : Prop := ∃ b off, b < w.heap.size ∧ v = .slice (some ⟨b, off, none⟩) W.length W.length ∧ ∀ (i : Nat) (h : i < W.length), w.cell? ⟨b, off + i, none⟩ = some (.string W[i])

theorem strsAt_alloc (W : List ByteArray) (w : World) (T : TypeId) : StrsAt (.slice (some ⟨w.heap.size, 0, none⟩) W.length W.length) W (w.alloc (.cells (W.map Value.string).toArray T)) := by
  refine ⟨w.heap.size, 0, by simp, rfl, fun i hi => ?_⟩
  rw [Nat.zero_add, World.cell?_alloc_at _ _ _ _ rfl]
  simp [hi]

/-- The width of a rune, and the bytes behind its first one. -/
theorem decodeN_tail (n b0 b1 b2 b3 : Nat) (h1 : b1 < 256) (h2 : b2 < 256) (h3 : b3 < 256) :
    1 ≤ (Lib.decodeN n b0 b1 b2 b3).2 ∧ (Lib.decodeN n b0 b1 b2 b3).2 ≤ 4 ∧ (1 ≤ n → (Lib.decodeN n b0 b1 b2 b3).2 ≤ n) ∧ (1 < (Lib.decodeN n b0 b1 b2 b3).2 → 128 ≤ b0 ∧ 128 ≤ b1) ∧ (2 < (Lib.decodeN n b0 b1 b2 b3).2 → 128 ≤ b2) ∧ (3 < (Lib.decodeN n b0 b1 b2 b3).2 → 128 ≤ b3) := by
  unfold Lib.decodeN
  repeat' split
  all_goals (simp only []; omega)

theorem decode_tail (s : ByteArray) (pos j : Nat) (h : 1 ≤ j) (hj : j < (Utf8.decode s pos).2) : 128 ≤ (s.get! (pos + j)).toNat := by
  rw [Lib.decode_at] at hj
  obtain ⟨a1, a2, a3, a4, a5, a6⟩ := decodeN_tail (s.size - pos) (s.get! pos).toNat (s.get! (pos + 1)).toNat (s.get! (pos + 2)).toNat (s.get! (pos + 3)).toNat (s.get! (pos + 1)).toNat_lt (s.get! (pos + 2)).toNat_lt (s.get! (pos + 3)).toNat_lt
  obtain rfl | rfl | rfl : j = 1 ∨ j = 2 ∨ j = 3 := by omega
  · exact (a4 hj).2
  · exact a5 hj
  · exact a6 hj
theorem decode_fits (s : ByteArray) (pos : Nat) (h : pos < s.size) : 1 ≤ (Utf8.decode s pos).2 ∧ pos + (Utf8.decode s pos).2 ≤ s.size := by
  rw [Lib.decode_at]
  obtain ⟨a1, a2, a3, a4, a5, a6⟩ := decodeN_tail (s.size - pos) (s.get! pos).toNat (s.get! (pos + 1)).toNat (s.get! (pos + 2)).toNat (s.get! (pos + 3)).toNat (s.get! (pos + 1)).toNat_lt (s.get! (pos + 2)).toNat_lt (s.get! (pos + 3)).toNat_lt
  have := a3 (by omega)
  omega

/-- What a rune that was decoded without error is encoded as. -/
def takeN (w b0 b1 b2 b3 : Nat) : List Nat := [b0, b1, b2, b3].take w
set_option maxHeartbeats 1000000 in
theorem encode_decodeN (n b0 b1 b2 b3 : Nat) (h0 : b0 < 256) (h1 : b1 < 256) (h2 : b2 < 256) (_h3 : b3 < 256)
    (hv : ¬ ((Lib.decodeN n b0 b1 b2 b3).1 = 65533 ∧ (Lib.decodeN n b0 b1 b2 b3).2 = 1)) :
    Lib.encodeRuneZ ((Lib.decodeN n b0 b1 b2 b3).1 : Nat) = (takeN (Lib.decodeN n b0 b1 b2 b3).2 b0 b1 b2 b3).map (fun x : Nat => (x : Int)) := by
  unfold Lib.decodeN at hv ⊢
  by_cases c0 : b0 < 128
  · simp only [if_pos c0]
    rw [Lib.encodeRuneZ_one (by omega) (by omega)]
    rfl
  simp only [if_neg c0] at hv ⊢
  by_cases c1 : b0 / 32 = 6 ∧ (1 < n ∧ b1 / 64 = 2)
  · simp only [if_pos c1] at hv ⊢
    by_cases d1 : b0 % 32 * 64 + b1 % 64 ≥ 128
    · simp only [if_pos d1]
      rw [Lib.encodeRuneZ_two (by omega) (by omega)]
      simp only [takeN, List.take, List.map_cons, List.map_nil, List.cons.injEq, and_true]
      omega
    · simp only [if_neg d1] at hv
      exact absurd hv (by simp)
  simp only [if_neg c1] at hv ⊢
  by_cases c2 : b0 / 16 = 14 ∧ (1 < n ∧ b1 / 64 = 2) ∧ (2 < n ∧ b2 / 64 = 2)
  · simp only [if_pos c2] at hv ⊢
    split at hv
    · rename_i d1
      rw [if_pos d1]
      rw [Lib.encodeRuneZ_three (by omega)]
      simp only [takeN, List.take, List.map_cons, List.map_nil, List.cons.injEq, and_true]
      omega
    · exact absurd hv (by simp)
  simp only [if_neg c2] at hv ⊢
  by_cases c3 : b0 / 8 = 30 ∧ (1 < n ∧ b1 / 64 = 2) ∧ (2 < n ∧ b2 / 64 = 2) ∧ (3 < n ∧ b3 / 64 = 2)
  · simp only [if_pos c3] at hv ⊢
    split at hv
    · rename_i d1
      rw [if_pos d1]
      rw [Lib.encodeRuneZ_four (by omega) (by omega)]
      simp only [takeN, List.take, List.map_cons, List.map_nil, List.cons.injEq, and_true]
      omega
    · exact absurd hv (by simp)
  · simp only [if_neg c3] at hv
    exact absurd hv (by simp)

theorem get_list (s : ByteArray) (i : Nat) (h : i < s.size) : s.get! i = s.data.toList.getD i 0 := by
  cases s with | mk d =>
  have h' : i < d.size := h
  show d[i]! = _
  rw [getElem!_pos d i h']
  simp [List.getD, h']
/-- The rune at place pos, over the rest of the bytes. -/
theorem decode_drop (s : ByteArray) (pos : Nat) (h : pos < s.size) : Lib.decodeL (s.data.toList.drop pos) = Utf8.decode s pos := by
  have hz : (⟨(s.data.toList.drop pos).toArray⟩ : ByteArray).size = s.size - pos := by
    show (s.data.toList.drop pos).toArray.size = _
    simp
  have hg : ∀ j, j < s.size - pos → (⟨(s.data.toList.drop pos).toArray⟩ : ByteArray).get! j = s.get! (pos + j) := by
    intro j hj
    rw [get_list _ j (by omega), get_list s (pos + j) (by omega)]
    simp [List.getD]
  unfold Lib.decodeL
  rw [Lib.decode_at, Lib.decode_at, hz]
  simp only [Nat.zero_add, Nat.sub_zero]
  have e0 := hg 0 (by omega)
  simp only [Nat.add_zero] at e0
  rw [e0]
  unfold Lib.decodeN
  by_cases h1 : 1 < s.size - pos
  · rw [hg 1 h1]
    by_cases h2 : 2 < s.size - pos
    · rw [hg 2 h2]
      by_cases h3 : 3 < s.size - pos
      · rw [hg 3 h3]
      · simp only [h3, false_and, and_false, if_false]
    · have h3 : ¬ 3 < s.size - pos := by omega
      simp only [h2, h3, false_and, and_false, if_false]
  · have h2 : ¬ 2 < s.size - pos := by omega
    have h3 : ¬ 3 < s.size - pos := by omega
    simp only [h1, h2, h3, false_and, and_false, if_false]

/-- Valid from place pos on: the rune there is none of the error's, and what follows it is valid. -/
theorem valid_at (s : ByteArray) (pos : Nat) (h : pos < s.size) (hv : Lib.validD (s.data.toList.drop pos) = true) :
    ¬ ((Utf8.decode s pos).1 = 65533 ∧ (Utf8.decode s pos).2 = 1) ∧ Lib.validD (s.data.toList.drop (pos + (Utf8.decode s pos).2)) = true := by
  have hne : s.data.toList.drop pos ≠ [] := by
    intro e
    have := congrArg List.length e
    have hs : s.data.toList.length = s.size := rfl
    simp only [List.length_drop, List.length_nil] at this
    omega
  rw [Lib.validD_step _ hne, decode_drop s pos h] at hv
  split at hv
  · cases hv
  · rename_i hn
    rw [List.drop_drop] at hv
    exact ⟨hn, hv⟩

theorem encode_at (s : ByteArray) (pos : Nat) (h : pos < s.size) (hv : ¬ ((Utf8.decode s pos).1 = 65533 ∧ (Utf8.decode s pos).2 = 1)) :
    Lib.encodeRune ((Utf8.decode s pos).1 : Nat) = (s.data.toList.drop pos).take (Utf8.decode s pos).2 := by
  have hf := decode_fits s pos h
  rw [Lib.decode_at] at hv hf ⊢
  have hw := decodeN_tail (s.size - pos) (s.get! pos).toNat (s.get! (pos + 1)).toNat (s.get! (pos + 2)).toNat (s.get! (pos + 3)).toNat (s.get! (pos + 1)).toNat_lt (s.get! (pos + 2)).toNat_lt (s.get! (pos + 3)).toNat_lt
  unfold Lib.encodeRune
  rw [encode_decodeN _ _ _ _ _ (s.get! pos).toNat_lt (s.get! (pos + 1)).toNat_lt (s.get! (pos + 2)).toNat_lt (s.get! (pos + 3)).toNat_lt hv]
  obtain ⟨w, hwd⟩ : ∃ w, (Lib.decodeN (s.size - pos) (s.get! pos).toNat (s.get! (pos + 1)).toNat (s.get! (pos + 2)).toNat (s.get! (pos + 3)).toNat).2 = w := ⟨_, rfl⟩
  rw [hwd] at hf hw ⊢
  have hl : s.data.toList.length = s.size := rfl
  apply List.ext_getElem
  · simp only [takeN, List.length_map, List.length_take, List.length_drop, List.length_cons, List.length_nil]
    omega
  · intro i i1 i2
    simp only [takeN, List.length_map, List.length_take, List.length_cons, List.length_nil] at i1
    have hi : pos + i < s.size := by omega
    have e : (s.data.toList.drop pos).take w = (s.data.toList.drop pos).take w := rfl
    simp only [takeN, List.getElem_map, List.getElem_take, List.getElem_drop]
    have hg : s.data.toList[pos + i] = s.get! (pos + i) := by
      rw [get_list s _ hi]
      simp [List.getD, hi]
    rw [hg]
    obtain rfl | rfl | rfl | rfl : i = 0 ∨ i = 1 ∨ i = 2 ∨ i = 3 := by omega
    all_goals simp

def okC (c : Nat) : Prop := 32 ≤ c ∧ c ≠ 127
instance (c : Nat) : Decidable (okC c) := by unfold okC; infer_instance
/-- No sign before place k is a control sign. -/
def plainTo (s : ByteArray) (k : Nat) : Prop := ∀ i, i < k → okC (s.get! i).toNat
instance (s : ByteArray) (k : Nat) : Decidable (plainTo s k) := by unfold plainTo; infer_instance
theorem plainTo_succ {s : ByteArray} {k : Nat} (h : plainTo s k) (hk : okC (s.get! k).toNat) : plainTo s (k + 1) := fun i hi => by
  rcases Nat.lt_succ_iff_lt_or_eq.1 hi with h1 | rfl
  · exact h i h1
  · exact hk
theorem plainTo_rune {s : ByteArray} {k : Nat} (h : plainTo s k) (hk : okC (s.get! k).toNat) : plainTo s (k + (Utf8.decode s k).2) := fun i hi => by
  by_cases h1 : i < k
  · exact h i h1
  by_cases h2 : i = k
  · subst h2; exact hk
  · have := decode_tail s k (i - k) (by omega) (by omega)
    rw [show k + (i - k) = i by omega] at this
    unfold okC
    omega
theorem okC_rune (s : ByteArray) (pos : Nat) (h : pos < s.size) : okC (s.get! pos).toNat ↔ okC (Utf8.decode s pos).1 := by
  rw [get_bang s pos h]
  by_cases ha : (s[pos]'h).toNat < 128
  · rw [decode_ascii s pos h ha]
  · have := (decode_high s pos h (by omega)).1
    unfold okC
    constructor <;> (intro _; omega)

/-- Whether a text is valid. -/
def validB (s : ByteArray) : Bool := decide (s.size ≤ 200) && Lib.validD s.data.toList && decide (plainTo s s.size)
theorem validB_long {s : ByteArray} (h : ¬ s.size ≤ 200) : validB s = false := by simp [validB, h]
theorem validB_bad {s : ByteArray} (h : Lib.validD s.data.toList = false) : validB s = false := by simp [validB, h]
theorem validB_ctl {s : ByteArray} {k : Nat} (hk : k < s.size) (h : ¬ okC (s.get! k).toNat) : validB s = false := by
  have : ¬ plainTo s s.size := fun h' => h (h' k hk)
  simp [validB, this]
theorem validB_yes {s : ByteArray} (h : s.size ≤ 200) (h1 : Lib.validD s.data.toList = true) (h2 : plainTo s s.size) : validB s = true := by simp [validB, h, h1, h2]

/-- The signs of a text with a backslash before each quotation mark and each backslash. -/
def isEsc (c : UInt8) : Bool := c == 34 || c == 92
def escL (l : List UInt8) : List UInt8 := l.flatMap fun c => if isEsc c then [92, c] else [c]
theorem escL_append (a b : List UInt8) : escL (a ++ b) = escL a ++ escL b := by simp [escL]
theorem escL_length (l : List UInt8) : (escL l).length ≤ 2 * l.length := by
  induction l with
  | nil => simp [escL]
  | cons c t ih =>
    have : escL (c :: t) = (if isEsc c then [92, c] else [c]) ++ escL t := rfl
    rw [this]
    split <;> simp <;> omega
theorem escL_plain {l : List UInt8} (h : ∀ c ∈ l, isEsc c = false) : escL l = l := by
  induction l with
  | nil => rfl
  | cons c t ih =>
    have : escL (c :: t) = (if isEsc c then [92, c] else [c]) ++ escL t := rfl
    rw [this, h c (by simp), ih fun d hd => h d (by simp [hd])]
    rfl
def quoteL (l : List UInt8) : List UInt8 := 34 :: (escL l ++ [34])

theorem escB_rune (s : ByteArray) (pos : Nat) (h : pos < s.size) : escB ((Utf8.decode s pos).1 : Nat) = isEsc (s.get! pos) := by
  rw [get_bang s pos h]
  unfold escB isEsc
  rw [Bool.eq_iff_iff]
  simp only [Bool.or_eq_true, beq_iff_eq, ← UInt8.toNat_inj]
  by_cases ha : (s[pos]'h).toNat < 128
  · rw [decode_ascii s pos h ha]
    simp only [UInt8.reduceToNat]
    omega
  · have := (decode_high s pos h (by omega)).1
    simp only [UInt8.reduceToNat]
    omega
theorem take_rune (s : ByteArray) (pos n : Nat) : s.data.toList.take (pos + n) = s.data.toList.take pos ++ (s.data.toList.drop pos).take n := by
  rw [List.take_add]
/-- What a rune adds to the text with its backslashes. -/
theorem esc_rune (s : ByteArray) (pos : Nat) (h : pos < s.size) (hv : ¬ ((Utf8.decode s pos).1 = 65533 ∧ (Utf8.decode s pos).2 = 1)) :
    escL (s.data.toList.take (pos + (Utf8.decode s pos).2)) = escL (s.data.toList.take pos) ++ ((if isEsc (s.get! pos) then [92] else []) ++ Lib.encodeRune ((Utf8.decode s pos).1 : Nat)) := by
  rw [take_rune, escL_append, encode_at s pos h hv]
  congr 1
  have hf := decode_fits s pos h
  have hl : s.data.toList.length = s.size := rfl
  cases he : isEsc (s.get! pos) with
  | true =>
    have ha : (s[pos]'h).toNat < 128 := by
      rw [get_bang s pos h] at he
      unfold isEsc at he
      simp only [Bool.or_eq_true, beq_iff_eq, ← UInt8.toNat_inj, UInt8.reduceToNat] at he
      omega
    have hw : (Utf8.decode s pos).2 = 1 := by rw [decode_ascii s pos h ha]
    rw [hw]
    have e : (s.data.toList.drop pos).take 1 = [s.get! pos] := by
      rw [List.drop_eq_getElem_cons (by omega), get_list s pos h]
      simp [List.getD, h]
    rw [e]
    simp [escL, he]
  | false =>
    rw [escL_plain]
    · rfl
    · intro c hc
      obtain ⟨i, hi, rfl⟩ := List.getElem_of_mem hc
      simp only [List.length_take, List.length_drop] at hi
      have hp : pos + i < s.size := by omega
      have hg : ((s.data.toList.drop pos).take (Utf8.decode s pos).2)[i]'(by simp only [List.length_take, List.length_drop]; omega) = s.get! (pos + i) := by
        rw [get_list s _ hp]
        simp [List.getD, hp]
      rw [hg]
      by_cases h0 : i = 0
      · subst h0; exact he
      · have := decode_tail s pos i (by omega) (by omega)
        unfold isEsc
        rw [Bool.eq_false_iff]
        simp only [ne_eq, Bool.or_eq_true, beq_iff_eq, ← UInt8.toNat_inj, UInt8.reduceToNat]
        omega

theorem ret_str2 {a b : ByteArray} {k : Int} (h : a = b) : Ending.returned (.tuple #[.string a, .int .i64 k]) = .returned (.tuple #[.string b, .int .i64 k]) := by rw [h]

theorem escL_snoc (l : List UInt8) (c : UInt8) : escL (l ++ [c]) = escL l ++ (if isEsc c then [92, c] else [c]) := by
  rw [escL_append]
  simp [escL]
theorem take_snoc (s : ByteArray) (k : Nat) (h : k < s.size) : s.data.toList.take (k + 1) = s.data.toList.take k ++ [s[k]] := by
  rw [List.take_succ_eq_append_getElem (by simpa using h)]; rfl

theorem take_all (s : ByteArray) : s.data.toList.take s.size = s.data.toList := List.take_of_length_le (Nat.le_refl _)

/-- From left to right: what is still to be read, whether a backslash is open, and what was read. -/
def unS : List UInt8 → Bool → List UInt8 → Option (List UInt8)
  | [], false, out => some out
  | [], true, _ => none
  | c :: t, true, out => if isEsc c then unS t false (out ++ [c]) else none
  | c :: t, false, out => if c = 34 then none else if c = 92 then unS t true out else unS t false (out ++ [c])
theorem unS_plain : ∀ (n : Nat) (l out : List UInt8), n ≤ l.length → (∀ c ∈ l.take n, isEsc c = false) → unS l false out = unS (l.drop n) false (out ++ l.take n)
  | 0, l, out, _, _ => by simp
  | n + 1, [], out, h, _ => by simp at h
  | n + 1, c :: t, out, h, hp => by
    have hc := hp c (by simp)
    have h1 : ¬ c = 34 := by rintro rfl; simp [isEsc] at hc
    have h2 : ¬ c = 92 := by rintro rfl; simp [isEsc] at hc
    rw [unS, if_neg h1, if_neg h2, unS_plain n t (out ++ [c]) (by simpa using h) (fun d hd => hp d (by simp [hd]))]
    simp
def unescV : Option (List UInt8) → Value
  | some o => .tuple #[.string ⟨o.toArray⟩, .bool true]
  | none => .tuple #[.string ⟨#[]⟩, .bool false]

theorem rune_is (s : ByteArray) (pos : Nat) (h : pos < s.size) (n : Nat) (hn : n < 128) : (Utf8.decode s pos).1 = n ↔ (s.get! pos).toNat = n := by
  rw [get_bang s pos h]
  by_cases ha : (s[pos]'h).toNat < 128
  · rw [decode_ascii s pos h ha]
  · have := (decode_high s pos h (by omega)).1
    constructor <;> (intro _; omega)
theorem drop_at (s : ByteArray) (pos : Nat) (h : pos < s.size) : s.data.toList.drop pos = s.get! pos :: s.data.toList.drop (pos + 1) := by
  rw [List.drop_eq_getElem_cons (by simpa using h), get_list s pos h]
  simp [List.getD, h]
/-- A rune that is no quotation mark and no backslash: none of its bytes is. -/
theorem rune_plain (s : ByteArray) (pos : Nat) (h : pos < s.size) (he : isEsc (s.get! pos) = false) : ∀ c ∈ (s.data.toList.drop pos).take (Utf8.decode s pos).2, isEsc c = false := by
  have hf := decode_fits s pos h
  have hl : s.data.toList.length = s.size := rfl
  intro c hc
  obtain ⟨i, hi, rfl⟩ := List.getElem_of_mem hc
  simp only [List.length_take, List.length_drop] at hi
  have hp : pos + i < s.size := by omega
  have hg : ((s.data.toList.drop pos).take (Utf8.decode s pos).2)[i]'(by simp only [List.length_take, List.length_drop]; omega) = s.get! (pos + i) := by
    rw [get_list s _ hp]
    simp [List.getD, hp]
  rw [hg]
  by_cases h0 : i = 0
  · subst h0; exact he
  · have := decode_tail s pos i (by omega) (by omega)
    unfold isEsc
    rw [Bool.eq_false_iff]
    simp only [ne_eq, Bool.or_eq_true, beq_iff_eq, ← UInt8.toNat_inj, UInt8.reduceToNat]
    omega
theorem esc_width (s : ByteArray) (pos : Nat) (h : pos < s.size) (he : isEsc (s.get! pos) = true) : (Utf8.decode s pos).2 = 1 := by
  rw [get_bang s pos h] at he
  unfold isEsc at he
  simp only [Bool.or_eq_true, beq_iff_eq, ← UInt8.toNat_inj, UInt8.reduceToNat] at he
  rw [decode_ascii s pos h (by omega)]
theorem ret_v {a b : Value} (h : a = b) : Ending.returned a = .returned b := by rw [h]

theorem mid_snoc (l : List UInt8) (f p n : Nat) (h : f ≤ p) : (l.take (p + n)).drop f = (l.take p).drop f ++ (l.drop p).take n := by
  rw [List.take_add]
  by_cases hp : p ≤ l.length
  · rw [List.drop_append_of_le_length (by rw [List.length_take]; omega)]
  · rw [List.drop_eq_nil_of_le (show l.length ≤ p by omega)]
    simp

/-- What stands between the first and the last sign. -/
def inner (s : ByteArray) : List UInt8 := (s.data.toList.drop 1).take (s.size - 2)
def strE (l : List UInt8) (e : Int) : Value := .tuple #[.string ⟨l.toArray⟩, .int .i64 e]
def unqIn : Option (List UInt8) → Value
  | none => strE [] 1
  | some o => if validB ⟨o.toArray⟩ then strE o 0 else strE [] 2
def unqV (s : ByteArray) : Value := if 2 ≤ s.size ∧ s.get! 0 = 34 ∧ s.get! (s.size - 1) = 34 then unqIn (unS (inner s) false []) else strE [] 1
theorem unqV_bad {s : ByteArray} (h : ¬ (2 ≤ s.size ∧ s.get! 0 = 34 ∧ s.get! (s.size - 1) = 34)) : unqV s = strE [] 1 := by unfold unqV; rw [if_neg h]
theorem unqV_in {s : ByteArray} (h : 2 ≤ s.size ∧ s.get! 0 = 34 ∧ s.get! (s.size - 1) = 34) : unqV s = unqIn (unS (inner s) false []) := by unfold unqV; rw [if_pos h]
theorem ne34 (s : ByteArray) (k : Nat) (h : k < s.size) : (((s[k]'h).toNat : Int) != 34) = decide (¬ s.get! k = 34) := by
  rw [get_bang s k h]
  rw [Bool.eq_iff_iff]
  simp only [bne_iff_ne, ne_eq, decide_eq_true_eq, ← UInt8.toNat_inj, UInt8.reduceToNat]
  omega

theorem unS_length : ∀ (l : List UInt8) (op : Bool) (out o : List UInt8), unS l op out = some o → o.length ≤ out.length + l.length
  | [], false, out, o, h => by rw [unS] at h; cases h; simp
  | [], true, out, o, h => by rw [unS] at h; cases h
  | c :: t, true, out, o, h => by
    rw [unS] at h
    split at h
    · have := unS_length t false (out ++ [c]) o h
      simp at this ⊢
      omega
    · cases h
  | c :: t, false, out, o, h => by
    rw [unS] at h
    split at h
    · cases h
    · split at h
      · have := unS_length t true out o h
        simp at this ⊢
        omega
      · have := unS_length t false (out ++ [c]) o h
        simp at this ⊢
        omega
theorem inner_eq (s : ByteArray) : inner s = (s.data.toList.take (s.size - 1)).drop 1 := by
  unfold inner
  rw [List.drop_take, show s.size - 1 - 1 = s.size - 2 by omega]
theorem rest_at (s : ByteArray) (k : Nat) (h : k + 1 < s.size) : (s.data.toList.take (s.size - 1)).drop k = s[k] :: (s.data.toList.take (s.size - 1)).drop (k + 1) := by
  have hl : s.data.toList.length = s.size := rfl
  have h' : k < (s.data.toList.take (s.size - 1)).length := by rw [List.length_take]; omega
  rw [List.drop_eq_getElem_cons h']
  congr 1
  rw [List.getElem_take]
  rfl
theorem rest_end (s : ByteArray) (k : Nat) (h : s.size ≤ k + 1) : (s.data.toList.take (s.size - 1)).drop k = [] := by
  apply List.drop_eq_nil_of_le
  rw [List.length_take]
  omega
theorem beqN {c d : UInt8} (h : ¬ c = d) (n : Int) (hn : (d.toNat : Int) = n) : ((c.toNat : Int) == n) = false := by
  rw [beq_eq_false_iff_ne]
  intro e
  exact h (UInt8.toNat_inj.1 (by omega))
theorem bneN {c d : UInt8} (h : ¬ c = d) (n : Int) (hn : (d.toNat : Int) = n) : ((c.toNat : Int) != n) = true := by
  unfold bne
  rw [beqN h n hn]
  rfl

/-- The digit of a number below ten. -/
def dgt (k : Nat) : UInt8 := UInt8.ofNat (48 + k)
theorem encode_low (r : Int) (h0 : 0 ≤ r) (h1 : r < 128) : Utf8.encode r = ⟨#[UInt8.ofNat r.toNat]⟩ := by
  have hv : Utf8.valid r = true := by
    unfold Utf8.valid
    simp
    omega
  unfold Utf8.encode
  rw [if_pos hv]
  simp only []
  rw [if_pos (by omega)]
theorem num_step (m : Nat) (x D : List UInt8) (h : Lib.decDigits m ++ x = D) :
    (m / 10 ≠ 0 → Lib.decDigits (m / 10) ++ (dgt (m % 10) :: x) = D) ∧ (m / 10 = 0 → dgt (m % 10) :: x = D) := by
  rw [Lib.decDigits] at h
  split at h
  · rename_i hlt
    refine ⟨fun h' => by omega, fun _ => ?_⟩
    rw [← h, show m % 10 = m by omega]
    rfl
  · rename_i hge
    refine ⟨fun _ => ?_, fun h' => by omega⟩
    rw [← h]
    simp [dgt]
theorem digits_le (m : Nat) (h : m < 18446744073709551616) : (Lib.decDigits m).length ≤ 20 := by
  rw [Lib.decDigits_length]
  exact Lib.nDigits_le20 m h
theorem append_data (a b : ByteArray) : (a ++ b).data.toList = a.data.toList ++ b.data.toList := by
  cases a; cases b
  simp [ByteArray.data_append]

theorem eta (s : ByteArray) : (⟨s.data.toList.toArray⟩ : ByteArray) = s := by cases s; simp

theorem tmod_neg (m : Int) (h : m ≤ 0) : m.tmod 10 = -((m.natAbs % 10 : Nat) : Int) := by
  obtain ⟨k, rfl⟩ : ∃ k : Nat, m = -(k : Int) := ⟨m.natAbs, by omega⟩
  rw [Int.neg_tmod, Int.natAbs_neg]
  rfl
theorem tdiv_neg (m : Int) (h : m ≤ 0) : m.tdiv 10 = -((m.natAbs / 10 : Nat) : Int) := by
  obtain ⟨k, rfl⟩ : ∃ k : Nat, m = -(k : Int) := ⟨m.natAbs, by omega⟩
  rw [Int.neg_tdiv, Int.natAbs_neg]
  rfl

/-- What the loop holds: what is left of the number, and the digits behind it. -/
def NumRel (n : Int) (a t : Value) : Prop :=
  ∃ (m : Int) (x : ByteArray), a = .int .i64 m ∧ t = .string x ∧ (n < 0 → m ≤ 0 ∧ -9223372036854775808 ≤ m) ∧ (0 ≤ n → 0 ≤ m ∧ m ≤ 9223372036854775807) ∧
    (m ≠ 0 → Lib.decDigits m.natAbs ++ x.data.toList = Lib.decDigits n.natAbs) ∧ (m = 0 → x.data.toList = Lib.decDigits n.natAbs)
theorem numRel_size {n m : Int} {x : ByteArray} (hn : n.natAbs < 18446744073709551616) (h1 : m ≠ 0 → Lib.decDigits m.natAbs ++ x.data.toList = Lib.decDigits n.natAbs) (h2 : m = 0 → x.data.toList = Lib.decDigits n.natAbs) : x.size ≤ 20 := by
  have hd := digits_le n.natAbs hn
  have hl : x.data.toList.length = x.size := rfl
  by_cases hm : m = 0
  · rw [← h2 hm] at hd; omega
  · rw [← h1 hm, List.length_append] at hd; omega

def isD (c : UInt8) : Bool := decide (48 ≤ c.toNat) && decide (c.toNat ≤ 57)
/-- The value of digits. -/
def valN (l : List UInt8) : Nat := l.foldl (fun n c => 10 * n + (c.toNat - 48)) 0
theorem valN_snoc (l : List UInt8) (c : UInt8) : valN (l ++ [c]) = 10 * valN l + (c.toNat - 48) := by simp [valN]
def numE (n e : Int) : Value := .tuple #[.int .i64 n, .int .i64 e]
/-- What digits come to: whether the text is "0", whether it has a sign, and the digits. -/
def parseD (z neg : Bool) (D : List UInt8) : Value :=
  if D = [] ∨ (D.head? = some 48 ∧ z = false) ∨ D.all isD = false then numE 0 1
  else if 1099511627776 < valN D then numE 0 3
  else numE (if neg then -(valN D : Int) else (valN D : Int)) 0
def isZ (s : ByteArray) : Bool := decide (s.data.toList = [48])
def parseV (s : ByteArray) : Value := parseD (isZ s) (Lib.hasPrefix s.data.toList [45]) (Lib.trimPrefix s.data.toList [45])

theorem digB_rune (s : ByteArray) (pos : Nat) (h : pos < s.size) : digB ((Utf8.decode s pos).1 : Nat) = isD (s.get! pos) := by
  rw [get_bang s pos h]
  unfold digB isD
  by_cases ha : (s[pos]'h).toNat < 128
  · rw [decode_ascii s pos h ha]
    rw [Bool.eq_iff_iff]
    simp only [Bool.and_eq_true, decide_eq_true_eq]
    omega
  · have := (decode_high s pos h (by omega)).1
    rw [Bool.eq_iff_iff]
    simp only [Bool.and_eq_true, decide_eq_true_eq]
    omega
theorem digit_rune (s : ByteArray) (pos : Nat) (h : pos < s.size) (hd : isD (s.get! pos) = true) : (Utf8.decode s pos).1 = (s.get! pos).toNat ∧ (Utf8.decode s pos).2 = 1 := by
  rw [get_bang s pos h] at hd ⊢
  unfold isD at hd
  simp only [Bool.and_eq_true, decide_eq_true_eq] at hd
  rw [decode_ascii s pos h (by omega)]
  exact ⟨rfl, rfl⟩
theorem take_get (s : ByteArray) (k : Nat) (h : k < s.size) : s.data.toList.take (k + 1) = s.data.toList.take k ++ [s.get! k] := by
  rw [take_snoc s k h, get_bang s k h]
theorem cap_step (v x : Nat) (hx : x ≤ 9) : min (10 * min v 1099511627777 + x) 1099511627777 = min (10 * v + x) 1099511627777 := by omega

/-- What the loop holds: the value of the digits so far, capped. -/
def PnRel (d : ByteArray) (I : Nat) (nv : Value) (w wr : World) : Prop :=
  ∃ pos : Nat, pos ≤ d.size ∧ (d.data.toList.take pos).all isD = true ∧ nv = .int .i64 ((min (valN (d.data.toList.take pos)) 1099511627777 : Nat) : Int) ∧ wr.heap[I]? = some (.stringIter d pos) ∧ Below w.heap.size w wr

theorem parseD_empty (z N : Bool) : parseD z N [] = numE 0 1 := by unfold parseD; rw [if_pos (Or.inl rfl)]
theorem parseD_zero (N : Bool) (D : List UInt8) (h : D.head? = some 48) : parseD false N D = numE 0 1 := by unfold parseD; rw [if_pos (Or.inr (Or.inl ⟨h, rfl⟩))]
theorem parseD_bad (z N : Bool) (D : List UInt8) (h : D.all isD = false) : parseD z N D = numE 0 1 := by unfold parseD; rw [if_pos (Or.inr (Or.inr h))]
theorem parseD_big (z N : Bool) (D : List UInt8) (h0 : D ≠ []) (h1 : ¬ (D.head? = some 48 ∧ z = false)) (h2 : D.all isD = true) (h3 : 1099511627776 < valN D) : parseD z N D = numE 0 3 := by
  unfold parseD
  rw [if_neg, if_pos h3]
  rintro (h | h | h)
  · exact h0 h
  · exact h1 h
  · rw [h2] at h; cases h
theorem parseD_ok (z N : Bool) (D : List UInt8) (h0 : D ≠ []) (h1 : ¬ (D.head? = some 48 ∧ z = false)) (h2 : D.all isD = true) (h3 : ¬ 1099511627776 < valN D) : parseD z N D = numE (if N then -(valN D : Int) else (valN D : Int)) 0 := by
  unfold parseD
  rw [if_neg, if_neg h3]
  rintro (h | h | h)
  · exact h0 h
  · exact h1 h
  · rw [h2] at h; cases h
theorem isZ_eq (s : ByteArray) : (s.toList == [48]) = isZ s := by
  unfold isZ
  rw [ByteArray.toList_eq, Bool.eq_iff_iff]
  simp
theorem all_not {l : List UInt8} {k : Nat} {c : UInt8} (h : l[k]? = some c) (hc : isD c = false) : l.all isD = false := by
  rw [List.all_eq_false]
  exact ⟨c, List.mem_of_getElem? h, by rw [hc]; simp⟩

theorem foldl_ge : ∀ (l : List UInt8) (a : Nat), a * 10 ^ l.length ≤ l.foldl (fun n c => 10 * n + (c.toNat - 48)) a
  | [], a => by simp
  | c :: t, a => by
    have h := foldl_ge t (10 * a + (c.toNat - 48))
    simp only [List.foldl_cons, List.length_cons, Nat.pow_succ]
    refine Nat.le_trans ?_ h
    rw [Nat.mul_comm (10 ^ t.length) 10, ← Nat.mul_assoc, Nat.mul_comm a 10]
    exact Nat.mul_le_mul_right _ (by omega)
theorem foldl_lt : ∀ (l : List UInt8) (a : Nat), l.all isD = true → l.foldl (fun n c => 10 * n + (c.toNat - 48)) a < (a + 1) * 10 ^ l.length
  | [], a, _ => by simp
  | c :: t, a, h => by
    rw [List.all_cons, Bool.and_eq_true] at h
    have h1 := foldl_lt t (10 * a + (c.toNat - 48)) h.2
    have hc : c.toNat ≤ 57 := by have := h.1; unfold isD at this; simp only [Bool.and_eq_true, decide_eq_true_eq] at this; exact this.2
    simp only [List.foldl_cons, List.length_cons, Nat.pow_succ]
    refine Nat.lt_of_lt_of_le h1 ?_
    rw [Nat.mul_comm (10 ^ t.length) 10, ← Nat.mul_assoc]
    exact Nat.mul_le_mul_right _ (by omega)
theorem valN_lt (l : List UInt8) (h : l.all isD = true) (h13 : l.length ≤ 13) : valN l < 10000000000000 := by
  have h1 := foldl_lt l 0 h
  rw [Nat.zero_add, Nat.one_mul] at h1
  exact Nat.lt_of_lt_of_le h1 (Nat.le_trans (Nat.pow_le_pow_right (by omega) h13) (by decide))
theorem valN_long (l : List UInt8) (h : l.all isD = true) (h13 : 13 < l.length) (h0 : ¬ l.head? = some 48) : 1099511627776 < valN l := by
  cases l with
  | nil => simp at h13
  | cons c t =>
    have hc : 49 ≤ c.toNat := by
      rw [List.all_cons, Bool.and_eq_true] at h
      have h1 := h.1
      unfold isD at h1
      simp only [Bool.and_eq_true, decide_eq_true_eq] at h1
      have : ¬ c = 48 := fun e => h0 (by rw [e]; rfl)
      have h2 : ¬ c.toNat = 48 := fun e => this (UInt8.toNat_inj.1 e)
      omega
    have h1 := foldl_ge t (10 * 0 + (c.toNat - 48))
    have h2 : 10 ^ 13 ≤ 10 ^ t.length := Nat.pow_le_pow_right (by omega) (by simp at h13; omega)
    have h3 : 1 * 10 ^ t.length ≤ (10 * 0 + (c.toNat - 48)) * 10 ^ t.length := Nat.mul_le_mul_right _ (by omega)
    have h4 : (1099511627776 : Nat) < 10 ^ 13 := by decide
    show 1099511627776 < t.foldl (fun n c => 10 * n + (c.toNat - 48)) (10 * 0 + (c.toNat - 48))
    omega
end Go.Proofs.YtcbnefeedoabeaaGreatDoor
/- What the parts of a version are: plain definitions and laws, of no program. -/
namespace Go.Proofs.YtcbnefeedoabeaaGreatDoor
open Go Go.RowKit

/-- Which number a text is, and the error. -/
def parseP (s : ByteArray) : Int × Int :=
  if Lib.trimPrefix s.data.toList [45] = [] ∨ ((Lib.trimPrefix s.data.toList [45]).head? = some 48 ∧ isZ s = false) ∨ (Lib.trimPrefix s.data.toList [45]).all isD = false then (0, 1)
  else if 1099511627776 < valN (Lib.trimPrefix s.data.toList [45]) then (0, 3)
  else (if Lib.hasPrefix s.data.toList [45] then -(valN (Lib.trimPrefix s.data.toList [45]) : Int) else (valN (Lib.trimPrefix s.data.toList [45]) : Int), 0)
theorem parseV_eq (s : ByteArray) : parseV s = numE (parseP s).1 (parseP s).2 := by
  unfold parseV parseD parseP
  split
  · rfl
  · split <;> rfl
theorem parseP_le (s : ByteArray) : -1099511627776 ≤ (parseP s).1 ∧ (parseP s).1 ≤ 1099511627776 := by
  unfold parseP
  split
  · exact ⟨by decide, by decide⟩
  · split
    · exact ⟨by decide, by decide⟩
    · simp only
      split <;> omega
theorem parseP_err (s : ByteArray) : (parseP s).2 = 0 ∨ (parseP s).2 = 1 ∨ (parseP s).2 = 3 := by
  unfold parseP
  split
  · exact .inr (.inl rfl)
  · split
    · exact .inr (.inr rfl)
    · exact .inl rfl
/-- How many bytes lie ahead of the first period. -/
def dots (l : List UInt8) : Nat := (l.takeWhile (· != 46)).length
theorem dots_eq : ∀ (l : List UInt8) (n : Nat), (∀ j, j < n → l[j]? ≠ some 46) → n ≤ l.length → (n = l.length ∨ l[n]? = some 46) → dots l = n
  | [], n, _, h2, _ => by
    have : n = 0 := by simpa using h2
    rw [this]
    rfl
  | c :: t, 0, _, _, h3 => by
    have hc : c = 46 := by simpa using h3
    simp [dots, hc]
  | c :: t, n + 1, h1, h2, h3 => by
    have hc : ¬ c = 46 := fun h => h1 0 (by omega) (by simp [h])
    have ih := dots_eq t n (fun j hj => by have := h1 (j + 1) (by omega); simpa using this) (by simpa using h2) (by simpa using h3)
    unfold dots at ih ⊢
    simp [hc, ih]
theorem dots_le (l : List UInt8) : dots l ≤ l.length := List.Sublist.length_le (List.takeWhile_sublist _)
def nextDot (s : ByteArray) (p : Nat) : Nat := p + dots (s.data.toList.drop p)
theorem at_get (s : ByteArray) (j : Nat) (h : j < s.size) : s.data.toList[j]? = some (s.get! j) := by
  rw [get_list s j h]
  simp [List.getD, h]
theorem nextDot_eq (s : ByteArray) (p q : Nat) (h0 : p ≤ q) (h1 : q ≤ s.size) (h2 : ∀ j, p ≤ j → j < q → s.get! j ≠ 46) (h3 : q = s.size ∨ s.get! q = 46) : nextDot s p = q := by
  have hl : s.data.toList.length = s.size := rfl
  have hd := dots_eq (s.data.toList.drop p) (q - p) (fun j hj e => by
      rw [List.getElem?_drop, at_get s (p + j) (by omega)] at e
      exact h2 (p + j) (by omega) (by omega) (Option.some.inj e)) (by rw [List.length_drop]; omega) (by
      rcases h3 with h3 | h3
      · exact .inl (by rw [List.length_drop]; omega)
      · by_cases hq : q < s.size
        · refine .inr ?_
          rw [List.getElem?_drop, show p + (q - p) = q from by omega, at_get s q hq, h3]
        · exact .inl (by rw [List.length_drop]; omega))
  unfold nextDot
  omega
/-- Where part number k begins. -/
def startAt (s : ByteArray) : Nat → Nat
  | 0 => 0
  | k + 1 => nextDot s (startAt s k) + 1
def segAt (s : ByteArray) (k : Nat) : ByteArray := s.extract (startAt s k) (nextDot s (startAt s k))
def verN (s : ByteArray) (k : Nat) : Int := (parseP (segAt s k)).1
def partOk (s : ByteArray) (k : Nat) : Prop := (parseP (segAt s k)).2 = 0 ∧ 0 ≤ verN s k ∧ verN s k ≤ 999999 ∧ (k < 2 ↔ nextDot s (startAt s k) < s.size)
instance (s : ByteArray) (k : Nat) : Decidable (partOk s k) := by unfold partOk; infer_instance
def verOk (s : ByteArray) : Prop := partOk s 0 ∧ partOk s 1 ∧ partOk s 2
instance (s : ByteArray) : Decidable (verOk s) := by unfold verOk; infer_instance
def fillV (s : ByteArray) (k : Nat) : List Int := [if 0 < k then verN s 0 else 0, if 1 < k then verN s 1 else 0, if 2 < k then verN s 2 else 0]
theorem fillV_set (s : ByteArray) (k : Nat) (h : k < 3) : (fillV s k).set k (verN s k) = fillV s (k + 1) := by
  match k, h with
  | 0, _ => rfl
  | 1, _ => rfl
  | 2, _ => rfl
  | k + 3, h => omega
/-- The three parts and whether the text is a version. -/
def verV (s : ByteArray) : Value :=
  if verOk s then .tuple #[.agg #[.int .i64 (verN s 0), .int .i64 (verN s 1), .int .i64 (verN s 2)], .bool true] else .tuple #[.agg #[.int .i64 0, .int .i64 0, .int .i64 0], .bool false]
theorem verV_bad (s : ByteArray) (k : Nat) (hk : k < 3) (h : ¬ partOk s k) : verV s = .tuple #[.agg #[.int .i64 0, .int .i64 0, .int .i64 0], .bool false] := by
  have hn : ¬ verOk s := by
    rintro ⟨h0, h1, h2⟩
    have hc : k = 0 ∨ k = 1 ∨ k = 2 := by omega
    rcases hc with rfl | rfl | rfl
    · exact h h0
    · exact h h1
    · exact h h2
  unfold verV
  rw [if_neg hn]
end Go.Proofs.YtcbnefeedoabeaaGreatDoor
/- What a value is, and which error it has: plain definitions and laws, of no program. -/
namespace Go.Proofs.YtcbnefeedoabeaaGreatDoor
open Go Go.RowKit

/-- a is at most b, byte by byte. -/
def leqT (a b : ByteArray) : Bool := Op.bytesLess a.toList b.toList || a.toList == b.toList
/-- Text number i is not at most the one ahead of it. -/
def ascAt (l : List ByteArray) (i : Nat) : Bool := i == 0 || !leqT (l.getD i ByteArray.empty) (l.getD (i - 1) ByteArray.empty)
def ascB (l : List ByteArray) : Bool := (List.range l.length).all (ascAt l)
def listE (l : List ByteArray) : Int := if 20 < l.length then 5 else if l.all validB = true then (if ascB l = true then 0 else 9) else 2
theorem ascB_yes (l : List ByteArray) (h : ∀ i, i < l.length → ascAt l i = true) : ascB l = true := by
  unfold ascB
  rw [List.all_eq_true]
  intro i hi
  exact h i (List.mem_range.1 hi)
theorem ascB_no (l : List ByteArray) (i : Nat) (hi : i < l.length) (h : ascAt l i = false) : ascB l = false := by
  unfold ascB
  rw [List.all_eq_false]
  exact ⟨i, List.mem_range.2 hi, by simp [h]⟩
theorem validAll_no (l : List ByteArray) (i : Nat) (hi : i < l.length) (h : validB l[i] = false) : l.all validB = false := by
  rw [List.all_eq_false]
  exact ⟨l[i], List.getElem_mem hi, by simp [h]⟩
theorem validAll_step (l : List ByteArray) (i : Nat) (hi : i < l.length) (h0 : (l.take i).all validB = true) (h : validB l[i] = true) : (l.take (i + 1)).all validB = true := by
  rw [List.take_succ_eq_append_getElem hi, List.all_append, h0]
  simp [h]
structure Val where
  kind : Int
  num : Int
  text : ByteArray
  list : List ByteArray
/-- Only the fields of the kind are not zero. -/
def shapeP (x : Val) : Prop := ((x.kind = 1 ∨ x.kind = 2) ∨ x.num = 0) ∧ ((x.kind = 3 ∨ x.kind = 4) ∨ x.text.size = 0) ∧ (x.kind = 5 ∨ x.list.length = 0)
instance (x : Val) : Decidable (shapeP x) := by unfold shapeP; infer_instance
def checkE (x : Val) : Int :=
  if x.kind < 1 ∨ 5 < x.kind then 7
  else if ¬ shapeP x then 15
  else if x.kind = 1 then (if x.num = 0 ∨ x.num = 1 then 0 else 3)
  else if x.kind = 2 then (if x.num < -1099511627776 ∨ 1099511627776 < x.num then 3 else 0)
  else if x.kind = 3 then (if validB x.text = true then 0 else 2)
  else if x.kind = 4 then (if verOk x.text then 0 else 1)
  else listE x.list
/-- The texts of a slice that came in. -/
def TextsAre (a0 : Option Addr) (l : List ByteArray) (w : World) : Prop := ∀ i (h : i < l.length), ∃ (b off : Nat), a0 = some ⟨b, off, none⟩ ∧ b < w.heap.size ∧ w.cell? ⟨b, off + i, none⟩ = some (.string l[i])
theorem TextsAre.below {a : Option Addr} {l : List ByteArray} {w w' : World} {B : Nat} (h : TextsAre a l w) (hB : w.heap.size ≤ B) (hb : Below B w w') : TextsAre a l w' := by
  intro i hi
  obtain ⟨b, off, rfl, hlt, hc⟩ := h i hi
  exact ⟨b, off, rfl, by have := hb.size; omega, (hb.cell (p := ⟨b, off + i, none⟩) (by show b < B; omega)).trans hc⟩
theorem linkB {w w1 w2 : World} (h : Below w.heap.size w w1) (h2 : Below w1.heap.size w1 w2) : Below w.heap.size w w2 := h.trans (h2.mono h.size)
end Go.Proofs.YtcbnefeedoabeaaGreatDoor
/- What a subject is, and which error it has: plain definitions and laws, of no program. -/
namespace Go.Proofs.YtcbnefeedoabeaaGreatDoor
open Go Go.RowKit

/-- A named value. -/
structure Attr where
  name : ByteArray
  val : Val
/-- A kind, a key, and named values. -/
structure Ctx where
  kind : ByteArray
  key : ByteArray
  attrs : List Attr
def keyWord : ByteArray := ⟨#[107, 101, 121]⟩
/-- May an attribute have this name? -/
def nameB (s : ByteArray) : Bool := keyB words s && !(s.toList == [107, 101, 121])
theorem not_leqT_empty (s : ByteArray) (h : 0 < s.size) : leqT s ByteArray.empty = false := by
  unfold leqT
  rw [ByteArray.toList_eq]
  have hl : s.data.toList.length = s.size := rfl
  cases hs : s.data.toList with
  | nil => rw [hs] at hl; simp at hl; omega
  | cons c t => simp [Op.bytesLess, ByteArray.toList_eq]
theorem keyB_size {W : List ByteArray} {s : ByteArray} (h : keyB W s = true) : 0 < s.size ∧ s.size ≤ 32 := by
  unfold keyB at h
  simp only [Bool.and_eq_true, decide_eq_true_eq] at h
  exact ⟨h.1.1.1, h.1.2⟩
theorem nameB_size {s : ByteArray} (h : nameB s = true) : 0 < s.size ∧ s.size ≤ 32 := by
  unfold nameB at h
  simp only [Bool.and_eq_true] at h
  exact keyB_size h.1
/-- The error of attributes that follow one of the name b. -/
def attrsGo : ByteArray → List Attr → Int
  | _, [] => 0
  | b, a :: t => if nameB a.name = true then (if leqT a.name b = true then 9 else if checkE a.val = 0 then attrsGo a.name t else checkE a.val) else 6
def attrsE (l : List Attr) : Int := if 20 < l.length then 5 else attrsGo ByteArray.empty l
/-- The error of a context that follows one of the kind b. -/
def ctxE (b : ByteArray) (c : Ctx) : Int :=
  if keyB words c.kind = true then (if leqT c.kind b = true then 9 else if c.key.size = 0 ∨ validB c.key = false then 2 else attrsE c.attrs) else 6
def subjGo : ByteArray → List Ctx → Int
  | _, [] => 0
  | b, c :: t => if ctxE b c = 0 then subjGo c.kind t else ctxE b c
def subjE (l : List Ctx) : Int := if 4 < l.length then 5 else subjGo ByteArray.empty l
/-- The name ahead of place i. -/
def prevN (l : List Attr) (i : Nat) : ByteArray := if i = 0 then ByteArray.empty else (l.map Attr.name).getD (i - 1) ByteArray.empty
def prevK (l : List Ctx) (i : Nat) : ByteArray := if i = 0 then ByteArray.empty else (l.map Ctx.kind).getD (i - 1) ByteArray.empty
theorem prevN_zero (l : List Attr) : prevN l 0 = ByteArray.empty := rfl
theorem prevK_zero (l : List Ctx) : prevK l 0 = ByteArray.empty := rfl
theorem prevN_succ (l : List Attr) (i : Nat) (h : i < l.length) : prevN l (i + 1) = l[i].name := by simp [prevN, List.getD, h]
theorem prevK_succ (l : List Ctx) (i : Nat) (h : i < l.length) : prevK l (i + 1) = l[i].kind := by simp [prevK, List.getD, h]
theorem attrsGo_at (l : List Attr) (i : Nat) (h : i < l.length) :
    attrsGo (prevN l i) (l.drop i) = if nameB l[i].name = true then (if leqT l[i].name (prevN l i) = true then 9 else if checkE l[i].val = 0 then attrsGo (prevN l (i + 1)) (l.drop (i + 1)) else checkE l[i].val) else 6 := by
  rw [List.drop_eq_getElem_cons h, attrsGo, prevN_succ l i h]
theorem attrsGo_end (b : ByteArray) (l : List Attr) (i : Nat) (h : l.length ≤ i) : attrsGo b (l.drop i) = 0 := by
  rw [List.drop_eq_nil_of_le h]; rfl
theorem subjGo_at (l : List Ctx) (i : Nat) (h : i < l.length) :
    subjGo (prevK l i) (l.drop i) = if ctxE (prevK l i) l[i] = 0 then subjGo (prevK l (i + 1)) (l.drop (i + 1)) else ctxE (prevK l i) l[i] := by
  rw [List.drop_eq_getElem_cons h, subjGo, prevK_succ l i h]
theorem subjGo_end (b : ByteArray) (l : List Ctx) (i : Nat) (h : l.length ≤ i) : subjGo b (l.drop i) = 0 := by
  rw [List.drop_eq_nil_of_le h]; rfl

/-- Texts whose cells lie in blocks of P. -/
def TextsP (P : Nat → Prop) (a0 : Option Addr) (l : List ByteArray) (w : World) : Prop := ∀ i (h : i < l.length), ∃ (b off : Nat), a0 = some ⟨b, off, none⟩ ∧ P b ∧ b < w.heap.size ∧ w.cell? ⟨b, off + i, none⟩ = some (.string l[i])
/-- Block b of w stands in w' as it stood. -/
def SameB (P : Nat → Prop) (w w' : World) : Prop := w.heap.size ≤ w'.heap.size ∧ ∀ b, P b → b < w.heap.size → w'.heap[b]? = w.heap[b]?
theorem SameB.refl (P : Nat → Prop) (w : World) : SameB P w w := ⟨Nat.le_refl _, fun _ _ _ => rfl⟩
theorem SameB.trans {P : Nat → Prop} {a b c : World} (h : SameB P a b) (k : SameB P b c) : SameB P a c :=
  ⟨Nat.le_trans h.1 k.1, fun i hP hi => (k.2 i hP (Nat.lt_of_lt_of_le hi h.1)).trans (h.2 i hP hi)⟩
theorem SameB.of_below {P : Nat → Prop} {w w' : World} (h : Below w.heap.size w w') : SameB P w w' := ⟨h.size, fun b _ hb => h.block b hb⟩
theorem SameB.mono {P Q : Nat → Prop} {w w' : World} (h : SameB P w w') (hq : ∀ b, Q b → P b) : SameB Q w w' := ⟨h.1, fun b hb hl => h.2 b (hq b hb) hl⟩
theorem SameB.cell {P : Nat → Prop} {w w' : World} (h : SameB P w w') {b i : Nat} (hP : P b) (hb : b < w.heap.size) : w'.cell? ⟨b, i, none⟩ = w.cell? ⟨b, i, none⟩ := World.cell?_of_block (w := w) (h.2 b hP hb)
theorem TextsP.same {P : Nat → Prop} {a : Option Addr} {l : List ByteArray} {w w' : World} (h : TextsP P a l w) (s : SameB P w w') : TextsP P a l w' := by
  intro i hi
  obtain ⟨b, off, rfl, hP, hlt, hc⟩ := h i hi
  exact ⟨b, off, rfl, hP, Nat.lt_of_lt_of_le hlt s.1, (s.cell hP hlt).trans hc⟩
theorem TextsP.mono {P Q : Nat → Prop} {a : Option Addr} {l : List ByteArray} {w : World} (h : TextsP P a l w) (hq : ∀ b, b < w.heap.size → P b → Q b) : TextsP Q a l w := by
  intro i hi
  obtain ⟨b, off, rfl, hP, hlt, hc⟩ := h i hi
  exact ⟨b, off, rfl, hq b hlt hP, hlt, hc⟩
theorem TextsP.are {P : Nat → Prop} {a : Option Addr} {l : List ByteArray} {w : World} (h : TextsP P a l w) : TextsAre a l w := by
  intro i hi
  obtain ⟨b, off, rfl, _, hlt, hc⟩ := h i hi
  exact ⟨b, off, rfl, hlt, hc⟩
/-- A value's list as it lies in memory: its address, its capacity. -/
structure ListP (P : Nat → Prop) (p : Option Addr) (c : Nat) (l : List ByteArray) (w : World) : Prop where
  nil : p = none → c = 0
  cap : l.length ≤ c
  texts : TextsP P p l w
theorem ListP.same {P : Nat → Prop} {p : Option Addr} {c : Nat} {l : List ByteArray} {w w' : World} (h : ListP P p c l w) (s : SameB P w w') : ListP P p c l w' := ⟨h.nil, h.cap, h.texts.same s⟩
theorem ListP.mono {P Q : Nat → Prop} {p : Option Addr} {c : Nat} {l : List ByteArray} {w : World} (h : ListP P p c l w) (hq : ∀ b, b < w.heap.size → P b → Q b) : ListP Q p c l w := ⟨h.nil, h.cap, h.texts.mono hq⟩
/-- One attribute at (b, off). -/
structure AttrAt (P : Nat → Prop) (a : Attr) (b off : Nat) (w : World) : Prop where
  c0 : w.cell? ⟨b, off, none⟩ = some (.string a.name)
  c1 : w.cell? ⟨b, off + 1, none⟩ = some (.int .i64 a.val.kind)
  c2 : w.cell? ⟨b, off + 2, none⟩ = some (.int .i64 a.val.num)
  c3 : w.cell? ⟨b, off + 3, none⟩ = some (.string a.val.text)
  c4 : ∃ (p : Option Addr) (c : Nat), w.cell? ⟨b, off + 4, none⟩ = some (.slice p (a.val.list.length : Nat) c) ∧ ListP P p c a.val.list w
theorem AttrAt.same {P : Nat → Prop} {a : Attr} {b off : Nat} {w w' : World} (h : AttrAt P a b off w) (s : SameB P w w') (hP : P b) (hb : b < w.heap.size) : AttrAt P a b off w' := by
  obtain ⟨p, c, h4, hl⟩ := h.c4
  exact ⟨(s.cell hP hb).trans h.c0, (s.cell hP hb).trans h.c1, (s.cell hP hb).trans h.c2, (s.cell hP hb).trans h.c3, p, c, (s.cell hP hb).trans h4, hl.same s⟩
theorem AttrAt.mono {P Q : Nat → Prop} {a : Attr} {b off : Nat} {w : World} (h : AttrAt P a b off w) (hq : ∀ b, b < w.heap.size → P b → Q b) : AttrAt Q a b off w := by
  obtain ⟨p, c, h4, hl⟩ := h.c4
  exact ⟨h.c0, h.c1, h.c2, h.c3, p, c, h4, hl.mono hq⟩
/-- A slice of attributes. -/
structure AttrsP (P : Nat → Prop) (a0 : Option Addr) (cp : Nat) (l : List Attr) (w : World) : Prop where
  nil : a0 = none → cp = 0
  cap : l.length ≤ cp
  at_ : ∀ i (h : i < l.length), ∃ (b off : Nat), a0 = some ⟨b, off, none⟩ ∧ P b ∧ b < w.heap.size ∧ AttrAt P l[i] b (off + i * 5) w
theorem AttrsP.same {P : Nat → Prop} {a0 : Option Addr} {cap : Nat} {l : List Attr} {w w' : World} (h : AttrsP P a0 cap l w) (s : SameB P w w') : AttrsP P a0 cap l w' := by
  refine ⟨h.nil, h.cap, fun i hi => ?_⟩
  obtain ⟨b, off, e, hP, hlt, hc⟩ := h.at_ i hi
  exact ⟨b, off, e, hP, Nat.lt_of_lt_of_le hlt s.1, hc.same s hP hlt⟩
theorem AttrsP.mono {P Q : Nat → Prop} {a0 : Option Addr} {cap : Nat} {l : List Attr} {w : World} (h : AttrsP P a0 cap l w) (hq : ∀ b, b < w.heap.size → P b → Q b) : AttrsP Q a0 cap l w := by
  refine ⟨h.nil, h.cap, fun i hi => ?_⟩
  obtain ⟨b, off, e, hP, hlt, hc⟩ := h.at_ i hi
  exact ⟨b, off, e, hq b hlt hP, hlt, hc.mono hq⟩
/-- One context at (b, off). -/
structure CtxAt (P : Nat → Prop) (x : Ctx) (b off : Nat) (w : World) : Prop where
  c0 : w.cell? ⟨b, off, none⟩ = some (.string x.kind)
  c1 : w.cell? ⟨b, off + 1, none⟩ = some (.string x.key)
  c2 : ∃ (p : Option Addr) (c : Nat), w.cell? ⟨b, off + 2, none⟩ = some (.slice p (x.attrs.length : Nat) c) ∧ AttrsP P p c x.attrs w
theorem CtxAt.same {P : Nat → Prop} {x : Ctx} {b off : Nat} {w w' : World} (h : CtxAt P x b off w) (s : SameB P w w') (hP : P b) (hb : b < w.heap.size) : CtxAt P x b off w' := by
  obtain ⟨p, c, h4, hl⟩ := h.c2
  exact ⟨(s.cell hP hb).trans h.c0, (s.cell hP hb).trans h.c1, p, c, (s.cell hP hb).trans h4, hl.same s⟩
theorem CtxAt.mono {P Q : Nat → Prop} {x : Ctx} {b off : Nat} {w : World} (h : CtxAt P x b off w) (hq : ∀ b, b < w.heap.size → P b → Q b) : CtxAt Q x b off w := by
  obtain ⟨p, c, h4, hl⟩ := h.c2
  exact ⟨h.c0, h.c1, p, c, h4, hl.mono hq⟩
/-- A slice of contexts. -/
structure CtxsP (P : Nat → Prop) (a0 : Option Addr) (cp : Nat) (l : List Ctx) (w : World) : Prop where
  nil : a0 = none → cp = 0
  cap : l.length ≤ cp
  at_ : ∀ i (h : i < l.length), ∃ (b off : Nat), a0 = some ⟨b, off, none⟩ ∧ P b ∧ b < w.heap.size ∧ CtxAt P l[i] b (off + i * 3) w
theorem CtxsP.same {P : Nat → Prop} {a0 : Option Addr} {cap : Nat} {l : List Ctx} {w w' : World} (h : CtxsP P a0 cap l w) (s : SameB P w w') : CtxsP P a0 cap l w' := by
  refine ⟨h.nil, h.cap, fun i hi => ?_⟩
  obtain ⟨b, off, e, hP, hlt, hc⟩ := h.at_ i hi
  exact ⟨b, off, e, hP, Nat.lt_of_lt_of_le hlt s.1, hc.same s hP hlt⟩
theorem CtxsP.mono {P Q : Nat → Prop} {a0 : Option Addr} {cap : Nat} {l : List Ctx} {w : World} (h : CtxsP P a0 cap l w) (hq : ∀ b, b < w.heap.size → P b → Q b) : CtxsP Q a0 cap l w := by
  refine ⟨h.nil, h.cap, fun i hi => ?_⟩
  obtain ⟨b, off, e, hP, hlt, hc⟩ := h.at_ i hi
  exact ⟨b, off, e, hq b hlt hP, hlt, hc.mono hq⟩
/-- A variable's block stands behind a call that only makes memory. -/
theorem box_heap {w w1 : World} {cs : Array Value} {T : TypeId} (hb : Below (w.alloc (.cells cs T)).heap.size (w.alloc (.cells cs T)) w1) : w1.heap[w.heap.size]? = some (.cells cs T (0, 0)) :=
  (hb.block w.heap.size (by simp)).trans (heap_alloc_new w _)
theorem box_below {B : Nat} {w0 w w1 : World} {o : Obj} (hbl : Below B w0 w) (hB : B ≤ w.heap.size) (hb : Below (w.alloc o).heap.size (w.alloc o) w1) : Below B w0 w1 :=
  (hbl.alloc hB o).trans (hb.mono (by simp; omega))
/-- The sizes that Go bears. -/
structure FitA (a : Attr) : Prop where
  name : a.name.size ≤ 9223372036854775000
  text : a.val.text.size ≤ 9223372036854775000
  list : a.val.list.length ≤ 8796093022207
  each : ∀ s ∈ a.val.list, s.size ≤ 9223372036854775000
structure FitC (x : Ctx) : Prop where
  kind : x.kind.size ≤ 9223372036854775000
  key : x.key.size ≤ 9223372036854775000
  attrs : x.attrs.length ≤ 9223372036854775000
  each : ∀ a ∈ x.attrs, FitA a
end Go.Proofs.YtcbnefeedoabeaaGreatDoor
/- The pieces of a text between its first two periods: plain laws, of no program. -/
namespace Go.Proofs.YtcbnefeedoabeaaGreatDoor
open Go Go.RowKit

theorem dots_lt_or (l : List UInt8) : Lib.indexByte l 46 = if dots l < l.length then (dots l : Int) else -1 := by
  induction l with
  | nil => rfl
  | cons c t ih =>
    unfold Lib.indexByte
    by_cases hc : c = 46
    · subst hc
      simp [dots]
    · have h1 : (c == 46) = false := by rw [beq_eq_false_iff_ne]; exact hc
      have h2 : dots (c :: t) = dots t + 1 := by simp [dots, hc]
      rw [h1, h2, ih]
      simp only [List.length_cons, Bool.false_eq_true, if_false]
      by_cases h3 : dots t < t.length
      · rw [if_pos h3, if_neg (by rw [beq_iff_eq]; omega), if_pos (by omega)]
        omega
      · have h4 : ¬ dots t + 1 < t.length + 1 := by omega
        simp [h3, h4]
theorem dots_no : ∀ (l : List UInt8) (j : Nat), j < dots l → l[j]? ≠ some 46
  | [], j, h => by simp [dots] at h
  | c :: t, j, h => by
    by_cases hc : c = 46
    · subst hc; simp [dots] at h
    · have h2 : dots (c :: t) = dots t + 1 := by simp [dots, hc]
      cases j with
      | zero => simpa using hc
      | succ j => simpa using dots_no t j (by omega)
theorem dots_at (l : List UInt8) (h : dots l < l.length) : l[dots l]? = some 46 := by
  induction l with
  | nil => simp at h
  | cons c t ih =>
    by_cases hc : c = 46
    · subst hc; simp [dots]
    · have h2 : dots (c :: t) = dots t + 1 := by simp [dots, hc]
      rw [h2] at h ⊢
      simpa using ih (by simpa using h)
theorem nextDot_le (s : ByteArray) (p : Nat) (h : p ≤ s.size) : nextDot s p ≤ s.size := by
  have h1 := dots_le (s.data.toList.drop p)
  have h2 : s.data.toList.length = s.size := rfl
  rw [List.length_drop] at h1
  unfold nextDot
  omega
theorem nextDot_ge (s : ByteArray) (p : Nat) : p ≤ nextDot s p := Nat.le_add_right _ _
/-- What strings.Index finds in what is left of a text. -/
theorem index_rest (s : ByteArray) (p : Nat) (h : p ≤ s.size) : Lib.indexByte (s.extract p s.size).data.toList 46 = if nextDot s p < s.size then ((nextDot s p - p : Nat) : Int) else -1 := by
  have h2 : s.data.toList.length = s.size := rfl
  have he : (s.extract p s.size).data.toList = s.data.toList.drop p := by rw [Lib.extract_data]; exact List.take_of_length_le (by rw [List.length_drop]; omega)
  rw [he, dots_lt_or, List.length_drop]
  have h1 := dots_le (s.data.toList.drop p)
  rw [List.length_drop] at h1
  unfold nextDot
  by_cases h3 : dots (s.data.toList.drop p) < s.data.toList.length - p
  · rw [if_pos h3, if_pos (by omega)]
    omega
  · rw [if_neg h3, if_neg (by omega)]
theorem extract_extract_head (s : ByteArray) (p m : Nat) (_h : p + m ≤ s.size) : (s.extract p s.size).extract 0 m = s.extract p (p + m) := by
  apply ByteArray.ext
  apply Array.toList_inj.1
  rw [Lib.extract_data, Lib.extract_data, Lib.extract_data]
  simp only [List.drop_zero, Nat.sub_zero]
  rw [List.take_take]
  congr 1
  omega
theorem extract_extract_tail (s : ByteArray) (p m : Nat) (_h : p + m ≤ s.size) : (s.extract p s.size).extract m (s.extract p s.size).size = s.extract (p + m) s.size := by
  have hz : (s.extract p s.size).size = s.size - p := by rw [ByteArray.size_extract]; omega
  rw [hz]
  apply ByteArray.ext
  apply Array.toList_inj.1
  rw [Lib.extract_data, Lib.extract_data, Lib.extract_data]
  have h2 : s.data.toList.length = s.size := rfl
  rw [List.take_of_length_le (by simp), List.drop_take, List.drop_drop]
  congr 1
  omega
/-- A text with a period is no number. -/
theorem parseP_dot (s : ByteArray) (j : Nat) (h : s.data.toList[j]? = some 46) : (parseP s).2 ≠ 0 := by
  have hall : (Lib.trimPrefix s.data.toList [45]).all isD = false := by
    unfold Lib.trimPrefix
    split
    · rename_i hp
      have hj : j ≠ 0 := by
        rintro rfl
        unfold Lib.hasPrefix at hp
        cases hl : s.data.toList with
        | nil => rw [hl] at h; cases h
        | cons c t =>
          rw [hl] at h hp
          simp at h
          subst h
          simp at hp
      obtain ⟨i, rfl⟩ : ∃ i, j = i + 1 := ⟨j - 1, by omega⟩
      refine all_not (k := i) (c := 46) ?_ rfl
      rw [List.getElem?_drop]
      simpa [Nat.add_comm] using h
    · exact all_not (k := j) h rfl
  unfold parseP
  rw [if_pos (Or.inr (Or.inr hall))]
  simp
/-- How far a text is cut: the first i pieces end at periods; where fewer than two are found, what is left has none. -/
structure Cut3 (s : ByteArray) (i : Nat) : Prop where
  two : i ≤ 2
  dot : ∀ j, j < i → nextDot s (startAt s j) < s.size
  left : startAt s i ≤ s.size
  last : i < 2 → nextDot s (startAt s i) = s.size
def restAt (s : ByteArray) (i : Nat) : ByteArray := s.extract (startAt s i) s.size
theorem Cut3.short {s : ByteArray} {i : Nat} (h : Cut3 s i) (hi : i < 2) : ¬ verOk s := by
  have hl := h.last hi
  have hn : ¬ partOk s i := fun hp => by
    have := (hp.2.2.2).1 hi
    omega
  rintro ⟨h0, h1, _⟩
  obtain rfl | rfl : i = 0 ∨ i = 1 := by omega
  · exact hn h0
  · exact hn h1
/-- What a field's number must be. -/
def fieldOk (t : ByteArray) : Prop := (parseP t).2 = 0 ∧ 0 ≤ (parseP t).1 ∧ (parseP t).1 ≤ 999999
instance (t : ByteArray) : Decidable (fieldOk t) := by unfold fieldOk; infer_instance
theorem Cut3.part {s : ByteArray} (h : Cut3 s 2) (j : Nat) (hj : j < 2) : partOk s j ↔ fieldOk (segAt s j) := by
  unfold partOk fieldOk verN
  have hd := h.dot j hj
  constructor
  · rintro ⟨a, b, c, _⟩; exact ⟨a, b, c⟩
  · rintro ⟨a, b, c⟩; exact ⟨a, b, c, fun _ => hd, fun _ => hj⟩
theorem Cut3.part2 {s : ByteArray} (h : Cut3 s 2) : (partOk s 2 ↔ fieldOk (restAt s 2)) ∧ (partOk s 2 → restAt s 2 = segAt s 2) := by
  have hl := nextDot_le s (startAt s 2) h.left
  have hg := nextDot_ge s (startAt s 2)
  by_cases hd : nextDot s (startAt s 2) < s.size
  · have hno : ¬ partOk s 2 := fun hp => by
      have := (hp.2.2.2).2 hd
      omega
    have h2 : s.data.toList.length = s.size := rfl
    have hbad : ¬ fieldOk (restAt s 2) := by
      intro hf
      refine parseP_dot (restAt s 2) (nextDot s (startAt s 2) - startAt s 2) ?_ hf.1
      unfold restAt
      rw [Lib.extract_data, List.getElem?_take, if_pos (by omega), List.getElem?_drop, ← dots_at (s.data.toList.drop (startAt s 2)) (by rw [List.length_drop]; unfold nextDot at hd; omega), List.getElem?_drop]
      congr 1
      unfold nextDot
      omega
    exact ⟨⟨fun h => absurd h hno, fun h => absurd h hbad⟩, fun h => absurd h hno⟩
  · have he : nextDot s (startAt s 2) = s.size := by omega
    have hs : restAt s 2 = segAt s 2 := by unfold restAt segAt; rw [he]
    refine ⟨?_, fun _ => hs⟩
    rw [hs]
    unfold partOk fieldOk verN
    constructor
    · rintro ⟨a, b, c, _⟩; exact ⟨a, b, c⟩
    · rintro ⟨a, b, c⟩; exact ⟨a, b, c, fun h => absurd h (by omega), fun h => absurd h (by omega)⟩
end Go.Proofs.YtcbnefeedoabeaaGreatDoor
/- The end of a quoted text: plain laws, of no program. -/
namespace Go.Proofs.YtcbnefeedoabeaaGreatDoor
open Go Go.RowKit

/-- How many bytes up to and with the first quotation mark that has no backslash ahead of it. -/
def endL : List UInt8 → Option Nat
  | [] => none
  | [c] => if c = 34 then some 1 else none
  | c :: d :: t => if c = 92 then (endL t).map (· + 2) else if c = 34 then some 1 else (endL (d :: t)).map (· + 1)
def endAt (s : ByteArray) (k : Nat) : Int := match endL (s.data.toList.drop k) with
  | some d => ((k + d : Nat) : Int)
  | none => -1
theorem endAt_out (s : ByteArray) (k : Nat) (h : s.size ≤ k) : endAt s k = -1 := by
  unfold endAt
  rw [List.drop_eq_nil_of_le (by exact h)]
  rfl
theorem endAt_quote (s : ByteArray) (k : Nat) (h : k < s.size) (hq : s.get! k = 34) : endAt s k = ((k + 1 : Nat) : Int) := by
  unfold endAt
  rw [drop_at s k h, hq]
  cases s.data.toList.drop (k + 1) <;> simp [endL]
theorem endAt_esc (s : ByteArray) (k : Nat) (h : k < s.size) (hq : s.get! k = 92) : endAt s k = endAt s (k + 2) := by
  unfold endAt
  rw [drop_at s k h, hq]
  by_cases h2 : k + 1 < s.size
  · rw [drop_at s (k + 1) h2]
    simp only [endL, if_true]
    cases endL (s.data.toList.drop (k + 1 + 1)) with
    | none => rfl
    | some d => show ((k + (d + 2) : Nat) : Int) = ((k + 2 + d : Nat) : Int); omega
  · have hl : s.data.toList.length = s.size := rfl
    rw [List.drop_eq_nil_of_le (show s.data.toList.length ≤ k + 1 by omega), List.drop_eq_nil_of_le (show s.data.toList.length ≤ k + 2 by omega)]
    simp [endL]
theorem endAt_next (s : ByteArray) (k : Nat) (h : k < s.size) (h1 : s.get! k ≠ 92) (h2 : s.get! k ≠ 34) : endAt s k = endAt s (k + 1) := by
  unfold endAt
  rw [drop_at s k h]
  cases hd : s.data.toList.drop (k + 1) with
  | nil => simp [endL, h2]
  | cons c t =>
    simp only [endL, h1, h2, if_false]
    cases endL (c :: t) with
    | none => rfl
    | some d => show ((k + (d + 1) : Nat) : Int) = ((k + 1 + d : Nat) : Int); omega
end Go.Proofs.YtcbnefeedoabeaaGreatDoor
/- The canonical text of contexts, and that it tells the kinds and keys: plain laws, of no program. -/
namespace Go.Proofs.YtcbnefeedoabeaaGreatDoor
open Go Go.RowKit

/-- A kind, a colon, and the key in quotation marks. -/
def partL (x : Ctx) : List UInt8 := x.kind.data.toList ++ 58 :: quoteL x.key.data.toList
def partB (x : Ctx) : ByteArray := ⟨(partL x).toArray⟩
/-- The first k texts, separated by sep. -/
def joinS (sep : List UInt8) (xs : List ByteArray) : Nat → List UInt8
  | 0 => []
  | k + 1 => (if k = 0 then [] else joinS sep xs k ++ sep) ++ (xs.getD k ByteArray.empty).data.toList
def canonL (l : List Ctx) : List UInt8 := joinS [44] (l.map partB) l.length
def canonP (l : List Ctx) : ByteArray × Int := if subjE l = 0 then (⟨(canonL l).toArray⟩, 0) else (⟨#[]⟩, subjE l)
theorem joinS_size (sep : List UInt8) (m : Nat) (xs : List ByteArray) (hx : ∀ s ∈ xs, s.size ≤ m) : ∀ k, k ≤ xs.length → (joinS sep xs k).length ≤ (m + sep.length) * k
  | 0, _ => by simp [joinS]
  | k + 1, h => by
    have ih := joinS_size sep m xs hx k (by omega)
    have hg : (xs.getD k ByteArray.empty).data.toList.length ≤ m := by
      have h1 : xs.getD k ByteArray.empty = xs[k]'(by omega) := by simp [List.getD, show k < xs.length by omega]
      rw [h1]
      exact hx _ (List.getElem_mem _)
    unfold joinS
    rw [List.length_append, Nat.mul_succ]
    split
    · simp only [List.length_nil]; omega
    · rw [List.length_append]; omega
theorem joinS_cons (sep : List UInt8) (x : ByteArray) (xs : List ByteArray) : ∀ k, k ≤ xs.length → joinS sep (x :: xs) (k + 1) = x.data.toList ++ (xs.take k).flatMap fun y => sep ++ y.data.toList
  | 0, _ => by simp [joinS]
  | k + 1, h => by
    have ih := joinS_cons sep x xs k (by omega)
    show (if k + 1 = 0 then [] else joinS sep (x :: xs) (k + 1) ++ sep) ++ ((x :: xs).getD (k + 1) ByteArray.empty).data.toList = _
    have hg : (x :: xs).getD (k + 1) ByteArray.empty = xs[k]'(by omega) := by simp [List.getD, show k < xs.length by omega]
    rw [if_neg (by omega), ih, List.take_succ_eq_append_getElem (show k < xs.length by omega), List.flatMap_append, hg]
    simp only [List.flatMap_cons, List.flatMap_nil, List.append_assoc, List.append_nil]
/-- What follows a context in the canonical text. -/
def restL : List Ctx → List UInt8
  | [] => []
  | c :: t => 44 :: (partL c ++ restL t)
theorem restL_eq : ∀ t : List Ctx, restL t = (t.map partB).flatMap fun y => [44] ++ y.data.toList
  | [] => rfl
  | c :: t => by
    rw [restL, restL_eq t]
    simp [partB]
theorem canonL_cons (c : Ctx) (t : List Ctx) : canonL (c :: t) = partL c ++ restL t := by
  unfold canonL
  rw [List.map_cons, List.length_cons, joinS_cons [44] _ _ t.length (by simp), restL_eq, List.take_of_length_le (by simp)]
  rfl
theorem endL_esc : ∀ (l r : List UInt8), endL (escL l ++ 34 :: r) = some ((escL l).length + 1)
  | [], r => by
    show endL (34 :: r) = _
    cases r <;> simp [endL, escL]
  | c :: t, r => by
    have ih := endL_esc t r
    have he : escL (c :: t) = (if isEsc c then [92, c] else [c]) ++ escL t := rfl
    cases hc : isEsc c with
    | true =>
      rw [he, hc, if_pos rfl]
      show endL (92 :: c :: (escL t ++ 34 :: r)) = _
      rw [endL, if_pos rfl, ih]
      simp
    | false =>
      rw [he, hc, if_neg (by simp)]
      have h1 : ¬ c = 92 := by rintro rfl; simp [isEsc] at hc
      have h2 : ¬ c = 34 := by rintro rfl; simp [isEsc] at hc
      show endL (c :: (escL t ++ 34 :: r)) = _
      obtain ⟨d, u, hd⟩ : ∃ d u, escL t ++ 34 :: r = d :: u := by
        cases hh : escL t with
        | nil => exact ⟨34, r, rfl⟩
        | cons d u => exact ⟨d, u ++ 34 :: r, rfl⟩
      rw [hd] at ih ⊢
      rw [endL, if_neg h1, if_neg h2, ih]
      simp
theorem unS_escL' : ∀ (l out : List UInt8), unS (escL l) false out = some (out ++ l)
  | [], out => by simp [escL, unS]
  | c :: t, out => by
    have he : escL (c :: t) = (if isEsc c then [92, c] else [c]) ++ escL t := rfl
    cases hc : isEsc c with
    | true =>
      rw [he, hc, if_pos rfl]
      show unS (92 :: c :: escL t) false out = _
      rw [unS, if_neg (by decide), if_pos rfl, unS, hc, if_pos rfl, unS_escL' t]
      simp
    | false =>
      rw [he, hc, if_neg (by simp)]
      have h1 : ¬ c = 92 := by rintro rfl; simp [isEsc] at hc
      have h2 : ¬ c = 34 := by rintro rfl; simp [isEsc] at hc
      show unS (c :: escL t) false out = _
      rw [unS, if_neg h2, if_neg h1, unS_escL' t]
      simp
theorem escL_inj {a b : List UInt8} (h : escL a = escL b) : a = b := by
  have h1 := unS_escL' a []
  have h2 := unS_escL' b []
  rw [h, h2] at h1
  simpa using h1.symm
/-- A quoted text tells where it ends. -/
theorem quote_split {a b r q : List UInt8} (h : quoteL a ++ r = quoteL b ++ q) : a = b ∧ r = q := by
  have h1 : escL a ++ 34 :: r = escL b ++ 34 :: q := by
    have := congrArg List.tail h
    simpa [quoteL] using this
  have e1 := endL_esc a r
  have e2 := endL_esc b q
  rw [h1, e2] at e1
  have hl : (escL a).length = (escL b).length := by simpa using e1.symm
  have h2 := List.append_inj h1 hl
  refine ⟨escL_inj h2.1, ?_⟩
  simpa using h2.2
/-- No sign of a word is a colon. -/
theorem word_colon {s : ByteArray} (h : wordP s) : ∀ c ∈ s.data.toList, c ≠ 58 := by
  intro c hc
  obtain ⟨i, hi, rfl⟩ := List.getElem_of_mem hc
  have hi' : i < s.size := hi
  have h1 := h.2 i hi'
  rw [get_bang s i hi'] at h1
  intro e
  have h2 : (s[i]'hi').toNat = 58 := by
    have : s.data.toList[i] = s[i]'hi' := rfl
    rw [← this, e]
    rfl
  rw [h2] at h1
  unfold okAt at h1
  omega
theorem colon_split : ∀ {a b r q : List UInt8}, (∀ c ∈ a, c ≠ 58) → (∀ c ∈ b, c ≠ 58) → a ++ 58 :: r = b ++ 58 :: q → a = b ∧ r = q
  | [], [], r, q, _, _, h => ⟨rfl, by simpa using h⟩
  | [], c :: t, r, q, _, h2, h => by
    simp at h
    exact absurd h.1.symm (h2 c (by simp))
  | c :: t, [], r, q, h1, _, h => by
    simp at h
    exact absurd h.1 (h1 c (by simp))
  | c :: t, d :: u, r, q, h1, h2, h => by
    simp at h
    obtain ⟨e1, e2⟩ := colon_split (fun x hx => h1 x (by simp [hx])) (fun x hx => h2 x (by simp [hx])) h.2
    exact ⟨by rw [h.1, e1], e2⟩
/-- The kinds and keys. -/
def namesOf (l : List Ctx) : List (ByteArray × ByteArray) := l.map fun c => (c.kind, c.key)
theorem part_split {x y : Ctx} {r q : List UInt8} (hx : wordP x.kind) (hy : wordP y.kind) (h : partL x ++ r = partL y ++ q) : (x.kind, x.key) = (y.kind, y.key) ∧ r = q := by
  unfold partL at h
  rw [List.append_assoc, List.append_assoc, List.cons_append, List.cons_append] at h
  obtain ⟨e1, e2⟩ := colon_split (word_colon hx) (word_colon hy) h
  obtain ⟨e3, e4⟩ := quote_split e2
  have hk : x.kind = y.kind := ByteArray.ext (Array.toList_inj.1 e1)
  have hq : x.key = y.key := ByteArray.ext (Array.toList_inj.1 e3)
  exact ⟨by rw [hk, hq], e4⟩
theorem rest_inj : ∀ {l m : List Ctx}, (∀ x ∈ l, wordP x.kind) → (∀ x ∈ m, wordP x.kind) → restL l = restL m → namesOf l = namesOf m
  | [], [], _, _, _ => rfl
  | [], c :: t, _, _, h => by simp [restL] at h
  | c :: t, [], _, _, h => by simp [restL] at h
  | c :: t, d :: u, h1, h2, h => by
    simp [restL] at h
    obtain ⟨e1, e2⟩ := part_split (h1 c (by simp)) (h2 d (by simp)) h
    have e3 := rest_inj (fun x hx => h1 x (by simp [hx])) (fun x hx => h2 x (by simp [hx])) e2
    show (c.kind, c.key) :: namesOf t = (d.kind, d.key) :: namesOf u
    rw [e1, e3]
theorem part_ne (c : Ctx) (t : List Ctx) : partL c ++ restL t ≠ [] := by simp [partL]
theorem canon_inj {l m : List Ctx} (h1 : ∀ x ∈ l, wordP x.kind) (h2 : ∀ x ∈ m, wordP x.kind) (h : canonL l = canonL m) : namesOf l = namesOf m := by
  cases l with
  | nil =>
    cases m with
    | nil => rfl
    | cons d u => rw [canonL_cons] at h; exact absurd h.symm (part_ne d u)
  | cons c t =>
    cases m with
    | nil => rw [canonL_cons] at h; exact absurd h (part_ne c t)
    | cons d u =>
      rw [canonL_cons, canonL_cons] at h
      obtain ⟨e1, e2⟩ := part_split (h1 c (by simp)) (h2 d (by simp)) h
      have e3 := rest_inj (fun x hx => h1 x (by simp [hx])) (fun x hx => h2 x (by simp [hx])) e2
      show (c.kind, c.key) :: namesOf t = (d.kind, d.key) :: namesOf u
      rw [e1, e3]
theorem names_part : ∀ {l m : List Ctx}, namesOf l = namesOf m → l.map partB = m.map partB
  | [], [], _ => rfl
  | [], c :: t, h => by simp [namesOf] at h
  | c :: t, [], h => by simp [namesOf] at h
  | c :: t, d :: u, h => by
    simp [namesOf] at h
    have e := names_part (l := t) (m := u) (by simpa [namesOf] using h.2)
    rw [List.map_cons, List.map_cons, e]
    have : partB c = partB d := by unfold partB partL; rw [h.1.1, h.1.2]
    rw [this]
theorem canon_names {l m : List Ctx} (h : namesOf l = namesOf m) : canonL l = canonL m := by
  have hl : l.length = m.length := by
    have := congrArg List.length h
    simpa [namesOf] using this
  unfold canonL
  rw [names_part h, hl]
theorem subjGo_kinds : ∀ (b : ByteArray) (l : List Ctx), subjGo b l = 0 → ∀ x ∈ l, ctxE b x = 0 ∨ ∃ k, ctxE k x = 0
  | _, [], _, x, hx => by simp at hx
  | b, c :: t, h, x, hx => by
    rw [subjGo] at h
    by_cases h0 : ctxE b c = 0
    · rw [if_pos h0] at h
      rcases List.mem_cons.1 hx with rfl | hx
      · exact .inl h0
      · rcases subjGo_kinds c.kind t h x hx with h1 | ⟨k, h1⟩
        · exact .inr ⟨_, h1⟩
        · exact .inr ⟨k, h1⟩
    · rw [if_neg h0] at h
      exact absurd h h0
/-- What a valid context is. -/
structure GoodC (x : Ctx) : Prop where
  word : wordP x.kind
  kind : x.kind.size ≤ 32
  some : 0 < x.key.size
  key : validB x.key = true
  attrs : attrsE x.attrs = 0
theorem good_of_ctxE {b : ByteArray} {x : Ctx} (h : ctxE b x = 0) : GoodC x := by
  unfold ctxE at h
  by_cases h1 : keyB words x.kind = true
  · rw [if_pos h1] at h
    by_cases h2 : leqT x.kind b = true
    · rw [if_pos h2] at h; cases h
    · rw [if_neg h2] at h
      by_cases h3 : x.key.size = 0 ∨ validB x.key = false
      · rw [if_pos h3] at h; cases h
      · rw [if_neg h3] at h
        have h4 : ¬ x.key.size = 0 := fun e => h3 (.inl e)
        have h5 : validB x.key = true := by
          cases hv : validB x.key with
          | true => rfl
          | false => exact absurd (.inr hv) h3
        unfold keyB at h1
        simp only [Bool.and_eq_true, decide_eq_true_eq] at h1
        exact ⟨h1.1.1, h1.1.2, by omega, h5, h⟩
  · rw [if_neg h1] at h; cases h
theorem good_all {l : List Ctx} (h : subjE l = 0) : l.length ≤ 4 ∧ ∀ x ∈ l, GoodC x := by
  unfold subjE at h
  by_cases h1 : 4 < l.length
  · rw [if_pos h1] at h; cases h
  · rw [if_neg h1] at h
    refine ⟨by omega, fun x hx => ?_⟩
    rcases subjGo_kinds _ l h x hx with h2 | ⟨k, h2⟩ <;> exact good_of_ctxE h2
end Go.Proofs.YtcbnefeedoabeaaGreatDoor
