/- What a text is: keys, validity, quotation marks, decimal numbers; plain definitions and laws, of no program. What the parts of a version are: plain definitions and laws, of no program. What a value is, and which error it has: plain definitions and laws, of no program. The pieces of a text between its first two periods: plain laws, of no program. The end of a quoted text: plain laws, of no program. Which value a text is the source form of: plain definitions and laws, of no program. Decimal forms and quoted texts are read as they were; the text of a version: plain laws, of no program. -/
import Derived.WalkKit
import Derived.WalkMore
import Derived.LoopTactic
import Derived.Lib.Hide
import Derived.Outline
import Derived.Below
import Derived.Lib.OthersKept
import Derived.Lib.DecodeN
import Derived.Lib.ValidLaws
import Derived.Lib.RuneBytes
import Derived.Lib.ItoaLen
import Derived.Lib.AppendIntMem
import Derived.Lib.Bytealg
/- What a text is: keys, validity, quotation marks, decimal numbers; plain definitions and laws, of no program. -/
namespace Go.Proofs.YtmijfcdmnibnpaaGreatDoor
open Go Go.RowKit

def letB (r : Int) : Bool := decide (97 ≤ r) && decide (r ≤ 122)
def digB (r : Int) : Bool := decide (48 ≤ r) && decide (r ≤ 57)
def escB (r : Int) : Bool := r == 34 || r == 92

theorem bytes_yes {x y : ByteArray} (h : x = y) : (x.toList == y.toList) = true := by subst h; simp
theorem bytes_no {x y : ByteArray} (h : ¬ x = y) : (x.toList == y.toList) = false := by
  simp only [ByteArray.toList_eq, beq_eq_false_iff_ne, ne_eq]
  intro e
  apply h
  cases x; cases y
  simp at e
  rw [e]

theorem take_mem_succ (W : List ByteArray) (s : ByteArray) (k : Nat) (h : k < W.length) (h1 : s ∉ W.take k) (h2 : s ≠ W[k]) : s ∉ W.take (k + 1) := by
  rw [List.take_succ_eq_append_getElem h, List.mem_append]
  rintro (h3 | h3)
  · exact h1 h3
  · exact h2 (by simpa using h3)

/-- A text is one of these words. -/
def isIn (W : List ByteArray) (s : ByteArray) : Bool := W.any fun x => s.toList == x.toList
theorem isIn_yes {W : List ByteArray} {s : ByteArray} (h : s ∈ W) : isIn W s = true := List.any_eq_true.2 ⟨s, h, bytes_yes rfl⟩
theorem isIn_no {W : List ByteArray} {s : ByteArray} (h : s ∉ W) : isIn W s = false := by
  unfold isIn
  rw [List.any_eq_false]
  intro x hx
  have : ¬ s = x := fun e => h (e ▸ hx)
  rw [bytes_no this]
  simp
theorem ret_bool {a b : Bool} (h : a = b) : Ending.returned (.bool a) = .returned (.bool b) := by rw [h]

/-- The sign at place i fits a word. -/
def okAt (c i : Nat) : Prop := (97 ≤ c ∧ c ≤ 122) ∨ (i ≠ 0 ∧ ((48 ≤ c ∧ c ≤ 57) ∨ c = 45 ∨ c = 95))
instance (c i : Nat) : Decidable (okAt c i) := by unfold okAt; infer_instance
def wordTo (s : ByteArray) (k : Nat) : Prop := ∀ i, i < k → okAt (s.get! i).toNat i
instance (s : ByteArray) (k : Nat) : Decidable (wordTo s k) := by unfold wordTo; infer_instance
def wordP (s : ByteArray) : Prop := 0 < s.size ∧ wordTo s s.size
instance (s : ByteArray) : Decidable (wordP s) := by unfold wordP; infer_instance
theorem get_bang (s : ByteArray) (k : Nat) (h : k < s.size) : s.get! k = s[k] := by
  cases s with | mk d =>
  show d[k]! = d[k]
  simp [getElem!_pos d k h]
theorem wordTo_succ {s : ByteArray} {k : Nat} (h : wordTo s k) (hk : okAt (s.get! k).toNat k) : wordTo s (k + 1) := fun i hi => by
  rcases Nat.lt_succ_iff_lt_or_eq.1 hi with h1 | rfl
  · exact h i h1
  · exact hk
theorem not_wordP {s : ByteArray} {k : Nat} (h : k < s.size) (hk : ¬ okAt (s.get! k).toNat k) : ¬ wordP s := fun h' => hk (h'.2 k h)

theorem okAt_rune (s : ByteArray) (pos : Nat) (h : pos < s.size) : okAt (s.get! pos).toNat pos ↔ okAt (Utf8.decode s pos).1 pos := by
  rw [get_bang s pos h]
  by_cases ha : (s[pos]'h).toNat < 128
  · rw [decode_ascii s pos h ha]
  · have := (decode_high s pos h (by omega)).1
    unfold okAt
    constructor <;> (intro h'; exfalso; omega)
theorem okAt_width (s : ByteArray) (pos : Nat) (h : pos < s.size) (hk : okAt (s.get! pos).toNat pos) : (Utf8.decode s pos).2 = 1 := by
  rw [get_bang s pos h] at hk
  rw [decode_ascii s pos h (by unfold okAt at hk; omega)]

/-- Whether a text is a key, given the reserved words. -/
def keyB (W : List ByteArray) (s : ByteArray) : Bool := decide (wordP s) && decide (s.size ≤ 32) && !isIn W s
theorem keyB_word {W : List ByteArray} {s : ByteArray} (h : ¬ wordP s) : keyB W s = false := by simp [keyB, h]
theorem keyB_long {W : List ByteArray} {s : ByteArray} (h : ¬ s.size ≤ 32) : keyB W s = false := by simp [keyB, h]
theorem keyB_rest {W : List ByteArray} {s : ByteArray} (h : wordP s) (h' : s.size ≤ 32) : keyB W s = !isIn W s := by simp [keyB, h, h']

/-- The reserved words, as the chapter lists them. -/
def words : List ByteArray := [⟨#[97, 110, 100]⟩, ⟨#[97, 114, 109, 115]⟩, ⟨#[97, 116, 116, 114, 105, 98, 117, 116, 101]⟩, ⟨#[98, 111, 111, 108]⟩, ⟨#[99, 108, 97, 105, 109, 115]⟩, ⟨#[99, 111, 110, 116, 97, 105, 110, 115]⟩, ⟨#[99, 111, 111, 108]⟩, ⟨#[99, 111, 111, 108, 105, 110, 103]⟩, ⟨#[100, 101, 102, 97, 117, 108, 116]⟩, ⟨#[100, 114, 97, 102, 116]⟩, ⟨#[101, 110, 100, 115]⟩, ⟨#[101, 120, 99, 108, 117, 100, 101]⟩, ⟨#[101, 120, 105, 115, 116, 115]⟩, ⟨#[101, 120, 112, 101, 114, 105, 109, 101, 110, 116]⟩, ⟨#[102, 97, 108, 115, 101]⟩, ⟨#[102, 108, 97, 103]⟩, ⟨#[104, 111, 108, 100, 111, 117, 116]⟩, ⟨#[105, 110]⟩, ⟨#[105, 110, 99, 108, 117, 100, 101]⟩, ⟨#[105, 115]⟩, ⟨#[108, 97, 121, 101, 114]⟩, ⟨#[108, 105, 115, 116]⟩, ⟨#[109, 101, 109, 98, 101, 114]⟩, ⟨#[110, 101, 101, 100, 115]⟩, ⟨#[110, 111, 116]⟩, ⟨#[110, 117, 109, 98, 101, 114]⟩, ⟨#[111, 102, 102]⟩, ⟨#[111, 110]⟩, ⟨#[111, 114]⟩, ⟨#[114, 117, 108, 101]⟩, ⟨#[114, 117, 110, 110, 105, 110, 103]⟩, ⟨#[115, 97, 108, 116]⟩, ⟨#[115, 101, 103, 109, 101, 110, 116]⟩, ⟨#[115, 101, 114, 118, 101]⟩, ⟨#[115, 101, 116, 116, 105, 110, 103, 115]⟩, ⟨#[115, 112, 108, 105, 116]⟩, ⟨#[115, 116, 97, 114, 116, 115]⟩, ⟨#[115, 116, 111, 112, 112, 101, 100]⟩, ⟨#[116, 97, 114, 103, 101, 116]⟩, ⟨#[116, 101, 120, 116]⟩, ⟨#[116, 111]⟩, ⟨#[116, 114, 117, 101]⟩, ⟨#[117, 110, 116, 105, 108]⟩, ⟨#[118, 97, 114, 105, 97, 116, 105, 111, 110, 115]⟩, ⟨#[118, 101, 114, 115, 105, 111, 110]⟩, ⟨#[119, 104, 101, 110]⟩]
theorem words_length : words.length = 46 := rfl

/-- A slice of strings that holds a list. -/
def StrsAt (v : Value) (W : List ByteArray) (w : World) : Prop := ∃ b off, b < w.heap.size ∧ v = .slice (some ⟨b, off, none⟩) W.length W.length ∧ ∀ (i : Nat) (h : i < W.length), w.cell? ⟨b, off + i, none⟩ = some (.string W[i])

theorem strsAt_alloc (W : List ByteArray) (w : World) (T : TypeId) : StrsAt (.slice (some ⟨w.heap.size, 0, none⟩) W.length W.length) W (w.alloc (.cells (W.map Value.string).toArray T)) := by
  refine ⟨w.heap.size, 0, by simp, rfl, fun i hi => ?_⟩
  rw [Nat.zero_add, World.cell?_alloc_at _ _ _ _ rfl]
  simp [hi]

/-- The width of a rune, and the bytes behind its first one. -/
theorem decodeN_tail (n b0 b1 b2 b3 : Nat) (h1 : b1 < 256) (h2 : b2 < 256) (h3 : b3 < 256) :
    1 ≤ (Lib.decodeN n b0 b1 b2 b3).2 ∧ (Lib.decodeN n b0 b1 b2 b3).2 ≤ 4 ∧ (1 ≤ n → (Lib.decodeN n b0 b1 b2 b3).2 ≤ n) ∧ (1 < (Lib.decodeN n b0 b1 b2 b3).2 → 128 ≤ b0 ∧ 128 ≤ b1) ∧ (2 < (Lib.decodeN n b0 b1 b2 b3).2 → 128 ≤ b2) ∧ (3 < (Lib.decodeN n b0 b1 b2 b3).2 → 128 ≤ b3) := by
  unfold Lib.decodeN
  repeat' split
  all_goals (simp only []; omega)

theorem decode_tail (s : ByteArray) (pos j : Nat) (h : 1 ≤ j) (hj : j < (Utf8.decode s pos).2) : 128 ≤ (s.get! (pos + j)).toNat := by
  rw [Lib.decode_at] at hj
  obtain ⟨a1, a2, a3, a4, a5, a6⟩ := decodeN_tail (s.size - pos) (s.get! pos).toNat (s.get! (pos + 1)).toNat (s.get! (pos + 2)).toNat (s.get! (pos + 3)).toNat (s.get! (pos + 1)).toNat_lt (s.get! (pos + 2)).toNat_lt (s.get! (pos + 3)).toNat_lt
  obtain rfl | rfl | rfl : j = 1 ∨ j = 2 ∨ j = 3 := by omega
  · exact (a4 hj).2
  · exact a5 hj
  · exact a6 hj
theorem decode_fits (s : ByteArray) (pos : Nat) (h : pos < s.size) : 1 ≤ (Utf8.decode s pos).2 ∧ pos + (Utf8.decode s pos).2 ≤ s.size := by
  rw [Lib.decode_at]
  obtain ⟨a1, a2, a3, a4, a5, a6⟩ := decodeN_tail (s.size - pos) (s.get! pos).toNat (s.get! (pos + 1)).toNat (s.get! (pos + 2)).toNat (s.get! (pos + 3)).toNat (s.get! (pos + 1)).toNat_lt (s.get! (pos + 2)).toNat_lt (s.get! (pos + 3)).toNat_lt
  have := a3 (by omega)
  omega

/-- What a rune that was decoded without error is encoded as. -/
def takeN (w b0 b1 b2 b3 : Nat) : List Nat := [b0, b1, b2, b3].take w
set_option maxHeartbeats 1000000 in
theorem encode_decodeN (n b0 b1 b2 b3 : Nat) (h0 : b0 < 256) (h1 : b1 < 256) (h2 : b2 < 256) (_h3 : b3 < 256)
    (hv : ¬ ((Lib.decodeN n b0 b1 b2 b3).1 = 65533 ∧ (Lib.decodeN n b0 b1 b2 b3).2 = 1)) :
    Lib.encodeRuneZ ((Lib.decodeN n b0 b1 b2 b3).1 : Nat) = (takeN (Lib.decodeN n b0 b1 b2 b3).2 b0 b1 b2 b3).map (fun x : Nat => (x : Int)) := by
  unfold Lib.decodeN at hv ⊢
  by_cases c0 : b0 < 128
  · simp only [if_pos c0]
    rw [Lib.encodeRuneZ_one (by omega) (by omega)]
    rfl
  simp only [if_neg c0] at hv ⊢
  by_cases c1 : b0 / 32 = 6 ∧ (1 < n ∧ b1 / 64 = 2)
  · simp only [if_pos c1] at hv ⊢
    by_cases d1 : b0 % 32 * 64 + b1 % 64 ≥ 128
    · simp only [if_pos d1]
      rw [Lib.encodeRuneZ_two (by omega) (by omega)]
      simp only [takeN, List.take, List.map_cons, List.map_nil, List.cons.injEq, and_true]
      omega
    · simp only [if_neg d1] at hv
      exact absurd hv (by simp)
  simp only [if_neg c1] at hv ⊢
  by_cases c2 : b0 / 16 = 14 ∧ (1 < n ∧ b1 / 64 = 2) ∧ (2 < n ∧ b2 / 64 = 2)
  · simp only [if_pos c2] at hv ⊢
    split at hv
    · rename_i d1
      rw [if_pos d1]
      rw [Lib.encodeRuneZ_three (by omega)]
      simp only [takeN, List.take, List.map_cons, List.map_nil, List.cons.injEq, and_true]
      omega
    · exact absurd hv (by simp)
  simp only [if_neg c2] at hv ⊢
  by_cases c3 : b0 / 8 = 30 ∧ (1 < n ∧ b1 / 64 = 2) ∧ (2 < n ∧ b2 / 64 = 2) ∧ (3 < n ∧ b3 / 64 = 2)
  · simp only [if_pos c3] at hv ⊢
    split at hv
    · rename_i d1
      rw [if_pos d1]
      rw [Lib.encodeRuneZ_four (by omega) (by omega)]
      simp only [takeN, List.take, List.map_cons, List.map_nil, List.cons.injEq, and_true]
      omega
    · exact absurd hv (by simp)
  · simp only [if_neg c3] at hv
    exact absurd hv (by simp)

theorem get_list (s : ByteArray) (i : Nat) (h : i < s.size) : s.get! i = s.data.toList.getD i 0 := by
  cases s with | mk d =>
  have h' : i < d.size := h
  show d[i]! = _
  rw [getElem!_pos d i h']
  simp [List.getD, h']
/-- The rune at place pos, over the rest of the bytes. -/
theorem decode_drop (s : ByteArray) (pos : Nat) (h : pos < s.size) : Lib.decodeL (s.data.toList.drop pos) = Utf8.decode s pos := by
  have hz : (⟨(s.data.toList.drop pos).toArray⟩ : ByteArray).size = s.size - pos := by
    show (s.data.toList.drop pos).toArray.size = _
    simp
  have hg : ∀ j, j < s.size - pos → (⟨(s.data.toList.drop pos).toArray⟩ : ByteArray).get! j = s.get! (pos + j) := by
    intro j hj
    rw [get_list _ j (by omega), get_list s (pos + j) (by omega)]
    simp [List.getD]
  unfold Lib.decodeL
  rw [Lib.decode_at, Lib.decode_at, hz]
  simp only [Nat.zero_add, Nat.sub_zero]
  have e0 := hg 0 (by omega)
  simp only [Nat.add_zero] at e0
  rw [e0]
  unfold Lib.decodeN
  by_cases h1 : 1 < s.size - pos
  · rw [hg 1 h1]
    by_cases h2 : 2 < s.size - pos
    · rw [hg 2 h2]
      by_cases h3 : 3 < s.size - pos
      · rw [hg 3 h3]
      · simp only [h3, false_and, and_false, if_false]
    · have h3 : ¬ 3 < s.size - pos := by omega
      simp only [h2, h3, false_and, and_false, if_false]
  · have h2 : ¬ 2 < s.size - pos := by omega
    have h3 : ¬ 3 < s.size - pos := by omega
    simp only [h1, h2, h3, false_and, and_false, if_false]

/-- Valid from place pos on: the rune there is none of the error's, and what follows it is valid. -/
theorem valid_at (s : ByteArray) (pos : Nat) (h : pos < s.size) (hv : Lib.validD (s.data.toList.drop pos) = true) :
    ¬ ((Utf8.decode s pos).1 = 65533 ∧ (Utf8.decode s pos).2 = 1) ∧ Lib.validD (s.data.toList.drop (pos + (Utf8.decode s pos).2)) = true := by
  have hne : s.data.toList.drop pos ≠ [] := by
    intro e
    have := congrArg List.length e
    have hs : s.data.toList.length = s.size := rfl
    simp only [List.length_drop, List.length_nil] at this
    omega
  rw [Lib.validD_step _ hne, decode_drop s pos h] at hv
  split at hv
  · cases hv
  · rename_i hn
    rw [List.drop_drop] at hv
    exact ⟨hn, hv⟩

theorem encode_at (s : ByteArray) (pos : Nat) (h : pos < s.size) (hv : ¬ ((Utf8.decode s pos).1 = 65533 ∧ (Utf8.decode s pos).2 = 1)) :
    Lib.encodeRune ((Utf8.decode s pos).1 : Nat) = (s.data.toList.drop pos).take (Utf8.decode s pos).2 := by
  have hf := decode_fits s pos h
  rw [Lib.decode_at] at hv hf ⊢
  have hw := decodeN_tail (s.size - pos) (s.get! pos).toNat (s.get! (pos + 1)).toNat (s.get! (pos + 2)).toNat (s.get! (pos + 3)).toNat (s.get! (pos + 1)).toNat_lt (s.get! (pos + 2)).toNat_lt (s.get! (pos + 3)).toNat_lt
  unfold Lib.encodeRune
  rw [encode_decodeN _ _ _ _ _ (s.get! pos).toNat_lt (s.get! (pos + 1)).toNat_lt (s.get! (pos + 2)).toNat_lt (s.get! (pos + 3)).toNat_lt hv]
  obtain ⟨w, hwd⟩ : ∃ w, (Lib.decodeN (s.size - pos) (s.get! pos).toNat (s.get! (pos + 1)).toNat (s.get! (pos + 2)).toNat (s.get! (pos + 3)).toNat).2 = w := ⟨_, rfl⟩
  rw [hwd] at hf hw ⊢
  have hl : s.data.toList.length = s.size := rfl
  apply List.ext_getElem
  · simp only [takeN, List.length_map, List.length_take, List.length_drop, List.length_cons, List.length_nil]
    omega
  · intro i i1 i2
    simp only [takeN, List.length_map, List.length_take, List.length_cons, List.length_nil] at i1
    have hi : pos + i < s.size := by omega
    have e : (s.data.toList.drop pos).take w = (s.data.toList.drop pos).take w := rfl
    simp only [takeN, List.getElem_map, List.getElem_take, List.getElem_drop]
    have hg : s.data.toList[pos + i] = s.get! (pos + i) := by
      rw [get_list s _ hi]
      simp [List.getD, hi]
    rw [hg]
    obtain rfl | rfl | rfl | rfl : i = 0 ∨ i = 1 ∨ i = 2 ∨ i = 3 := by omega
    all_goals simp

def okC (c : Nat) : Prop := 32 ≤ c ∧ c ≠ 127
instance (c : Nat) : Decidable (okC c) := by unfold okC; infer_instance
/-- No sign before place k is a control sign. -/
def plainTo (s : ByteArray) (k : Nat) : Prop := ∀ i, i < k → okC (s.get! i).toNat
instance (s : ByteArray) (k : Nat) : Decidable (plainTo s k) := by unfold plainTo; infer_instance
theorem plainTo_succ {s : ByteArray} {k : Nat} (h : plainTo s k) (hk : okC (s.get! k).toNat) : plainTo s (k + 1) := fun i hi => by
  rcases Nat.lt_succ_iff_lt_or_eq.1 hi with h1 | rfl
  · exact h i h1
  · exact hk
theorem plainTo_rune {s : ByteArray} {k : Nat} (h : plainTo s k) (hk : okC (s.get! k).toNat) : plainTo s (k + (Utf8.decode s k).2) := fun i hi => by
  by_cases h1 : i < k
  · exact h i h1
  by_cases h2 : i = k
  · subst h2; exact hk
  · have := decode_tail s k (i - k) (by omega) (by omega)
    rw [show k + (i - k) = i by omega] at this
    unfold okC
    omega
theorem okC_rune (s : ByteArray) (pos : Nat) (h : pos < s.size) : okC (s.get! pos).toNat ↔ okC (Utf8.decode s pos).1 := by
  rw [get_bang s pos h]
  by_cases ha : (s[pos]'h).toNat < 128
  · rw [decode_ascii s pos h ha]
  · have := (decode_high s pos h (by omega)).1
    unfold okC
    constructor <;> (intro _; omega)

/-- Whether a text is valid. -/
def validB (s : ByteArray) : Bool := decide (s.size ≤ 200) && Lib.validD s.data.toList && decide (plainTo s s.size)
theorem validB_long {s : ByteArray} (h : ¬ s.size ≤ 200) : validB s = false := by simp [validB, h]
theorem validB_bad {s : ByteArray} (h : Lib.validD s.data.toList = false) : validB s = false := by simp [validB, h]
theorem validB_ctl {s : ByteArray} {k : Nat} (hk : k < s.size) (h : ¬ okC (s.get! k).toNat) : validB s = false := by
  have : ¬ plainTo s s.size := fun h' => h (h' k hk)
  simp [validB, this]
theorem validB_yes {s : ByteArray} (h : s.size ≤ 200) (h1 : Lib.validD s.data.toList = true) (h2 : plainTo s s.size) : validB s = true := by simp [validB, h, h1, h2]

/-- The signs of a text with a backslash before each quotation mark and each backslash. -/
def isEsc (c : UInt8) : Bool := c == 34 || c == 92
def escL (l : List UInt8) : List UInt8 := l.flatMap fun c => if isEsc c then [92, c] else [c]
theorem escL_append (a b : List UInt8) : escL (a ++ b) = escL a ++ escL b := by simp [escL]
theorem escL_length (l : List UInt8) : (escL l).length ≤ 2 * l.length := by
  induction l with
  | nil => simp [escL]
  | cons c t ih =>
    have : escL (c :: t) = (if isEsc c then [92, c] else [c]) ++ escL t := rfl
    rw [this]
    split <;> simp <;> omega
theorem escL_plain {l : List UInt8} (h : ∀ c ∈ l, isEsc c = false) : escL l = l := by
  induction l with
  | nil => rfl
  | cons c t ih =>
    have : escL (c :: t) = (if isEsc c then [92, c] else [c]) ++ escL t := rfl
    rw [this, h c (by simp), ih fun d hd => h d (by simp [hd])]
    rfl
def quoteL (l : List UInt8) : List UInt8 := 34 :: (escL l ++ [34])

theorem escB_rune (s : ByteArray) (pos : Nat) (h : pos < s.size) : escB ((Utf8.decode s pos).1 : Nat) = isEsc (s.get! pos) := by
  rw [get_bang s pos h]
  unfold escB isEsc
  rw [Bool.eq_iff_iff]
  simp only [Bool.or_eq_true, beq_iff_eq, ← UInt8.toNat_inj]
  by_cases ha : (s[pos]'h).toNat < 128
  · rw [decode_ascii s pos h ha]
    simp only [UInt8.reduceToNat]
    omega
  · have := (decode_high s pos h (by omega)).1
    simp only [UInt8.reduceToNat]
    omega
theorem take_rune (s : ByteArray) (pos n : Nat) : s.data.toList.take (pos + n) = s.data.toList.take pos ++ (s.data.toList.drop pos).take n := by
  rw [List.take_add]
/-- What a rune adds to the text with its backslashes. -/
theorem esc_rune (s : ByteArray) (pos : Nat) (h : pos < s.size) (hv : ¬ ((Utf8.decode s pos).1 = 65533 ∧ (Utf8.decode s pos).2 = 1)) :
    escL (s.data.toList.take (pos + (Utf8.decode s pos).2)) = escL (s.data.toList.take pos) ++ ((if isEsc (s.get! pos) then [92] else []) ++ Lib.encodeRune ((Utf8.decode s pos).1 : Nat)) := by
  rw [take_rune, escL_append, encode_at s pos h hv]
  congr 1
  have hf := decode_fits s pos h
  have hl : s.data.toList.length = s.size := rfl
  cases he : isEsc (s.get! pos) with
  | true =>
    have ha : (s[pos]'h).toNat < 128 := by
      rw [get_bang s pos h] at he
      unfold isEsc at he
      simp only [Bool.or_eq_true, beq_iff_eq, ← UInt8.toNat_inj, UInt8.reduceToNat] at he
      omega
    have hw : (Utf8.decode s pos).2 = 1 := by rw [decode_ascii s pos h ha]
    rw [hw]
    have e : (s.data.toList.drop pos).take 1 = [s.get! pos] := by
      rw [List.drop_eq_getElem_cons (by omega), get_list s pos h]
      simp [List.getD, h]
    rw [e]
    simp [escL, he]
  | false =>
    rw [escL_plain]
    · rfl
    · intro c hc
      obtain ⟨i, hi, rfl⟩ := List.getElem_of_mem hc
      simp only [List.length_take, List.length_drop] at hi
      have hp : pos + i < s.size := by omega
      have hg : ((s.data.toList.drop pos).take (Utf8.decode s pos).2)[i]'(by simp only [List.length_take, List.length_drop]; omega) = s.get! (pos + i) := by
        rw [get_list s _ hp]
        simp [List.getD, hp]
      rw [hg]
      by_cases h0 : i = 0
      · subst h0; exact he
      · have := decode_tail s pos i (by omega) (by omega)
        unfold isEsc
        rw [Bool.eq_false_iff]
        simp only [ne_eq, Bool.or_eq_true, beq_iff_eq, ← UInt8.toNat_inj, UInt8.reduceToNat]
        omega

theorem ret_str2 {a b : ByteArray} {k : Int} (h : a = b) : Ending.returned (.tuple #[.string a, .int .i64 k]) = .returned (.tuple #[.string b, .int .i64 k]) := by rw [h]

theorem escL_snoc (l : List UInt8) (c : UInt8) : escL (l ++ [c]) = escL l ++ (if isEsc c then [92, c] else [c]) := by
  rw [escL_append]
  simp [escL]
theorem take_snoc (s : ByteArray) (k : Nat) (h : k < s.size) : s.data.toList.take (k + 1) = s.data.toList.take k ++ [s[k]] := by
  rw [List.take_succ_eq_append_getElem (by simpa using h)]; rfl

theorem take_all (s : ByteArray) : s.data.toList.take s.size = s.data.toList := List.take_of_length_le (Nat.le_refl _)

/-- From left to right: what is still to be read, whether a backslash is open, and what was read. -/
def unS : List UInt8 → Bool → List UInt8 → Option (List UInt8)
  | [], false, out => some out
  | [], true, _ => none
  | c :: t, true, out => if isEsc c then unS t false (out ++ [c]) else none
  | c :: t, false, out => if c = 34 then none else if c = 92 then unS t true out else unS t false (out ++ [c])
theorem unS_plain : ∀ (n : Nat) (l out : List UInt8), n ≤ l.length → (∀ c ∈ l.take n, isEsc c = false) → unS l false out = unS (l.drop n) false (out ++ l.take n)
  | 0, l, out, _, _ => by simp
  | n + 1, [], out, h, _ => by simp at h
  | n + 1, c :: t, out, h, hp => by
    have hc := hp c (by simp)
    have h1 : ¬ c = 34 := by rintro rfl; simp [isEsc] at hc
    have h2 : ¬ c = 92 := by rintro rfl; simp [isEsc] at hc
    rw [unS, if_neg h1, if_neg h2, unS_plain n t (out ++ [c]) (by simpa using h) (fun d hd => hp d (by simp [hd]))]
    simp
def unescV : Option (List UInt8) → Value
  | some o => .tuple #[.string ⟨o.toArray⟩, .bool true]
  | none => .tuple #[.string ⟨#[]⟩, .bool false]

theorem rune_is (s : ByteArray) (pos : Nat) (h : pos < s.size) (n : Nat) (hn : n < 128) : (Utf8.decode s pos).1 = n ↔ (s.get! pos).toNat = n := by
  rw [get_bang s pos h]
  by_cases ha : (s[pos]'h).toNat < 128
  · rw [decode_ascii s pos h ha]
  · have := (decode_high s pos h (by omega)).1
    constructor <;> (intro _; omega)
theorem drop_at (s : ByteArray) (pos : Nat) (h : pos < s.size) : s.data.toList.drop pos = s.get! pos :: s.data.toList.drop (pos + 1) := by
  rw [List.drop_eq_getElem_cons (by simpa using h), get_list s pos h]
  simp [List.getD, h]
/-- A rune that is no quotation mark and no backslash: none of its bytes is. -/
theorem rune_plain (s : ByteArray) (pos : Nat) (h : pos < s.size) (he : isEsc (s.get! pos) = false) : ∀ c ∈ (s.data.toList.drop pos).take (Utf8.decode s pos).2, isEsc c = false := by
  have hf := decode_fits s pos h
  have hl : s.data.toList.length = s.size := rfl
  intro c hc
  obtain ⟨i, hi, rfl⟩ := List.getElem_of_mem hc
  simp only [List.length_take, List.length_drop] at hi
  have hp : pos + i < s.size := by omega
  have hg : ((s.data.toList.drop pos).take (Utf8.decode s pos).2)[i]'(by simp only [List.length_take, List.length_drop]; omega) = s.get! (pos + i) := by
    rw [get_list s _ hp]
    simp [List.getD, hp]
  rw [hg]
  by_cases h0 : i = 0
  · subst h0; exact he
  · have := decode_tail s pos i (by omega) (by omega)
    unfold isEsc
    rw [Bool.eq_false_iff]
    simp only [ne_eq, Bool.or_eq_true, beq_iff_eq, ← UInt8.toNat_inj, UInt8.reduceToNat]
    omega
theorem esc_width (s : ByteArray) (pos : Nat) (h : pos < s.size) (he : isEsc (s.get! pos) = true) : (Utf8.decode s pos).2 = 1 := by
  rw [get_bang s pos h] at he
  unfold isEsc at he
  simp only [Bool.or_eq_true, beq_iff_eq, ← UInt8.toNat_inj, UInt8.reduceToNat] at he
  rw [decode_ascii s pos h (by omega)]
theorem ret_v {a b : Value} (h : a = b) : Ending.returned a = .returned b := by rw [h]

theorem mid_snoc (l : List UInt8) (f p n : Nat) (h : f ≤ p) : (l.take (p + n)).drop f = (l.take p).drop f ++ (l.drop p).take n := by
  rw [List.take_add]
  by_cases hp : p ≤ l.length
  · rw [List.drop_append_of_le_length (by rw [List.length_take]; omega)]
  · rw [List.drop_eq_nil_of_le (show l.length ≤ p by omega)]
    simp

/-- What stands between the first and the last sign. -/
def inner (s : ByteArray) : List UInt8 := (s.data.toList.drop 1).take (s.size - 2)
def strE (l : List UInt8) (e : Int) : Value := .tuple #[.string ⟨l.toArray⟩, .int .i64 e]
def unqIn : Option (List UInt8) → Value
  | none => strE [] 1
  | some o => if validB ⟨o.toArray⟩ then strE o 0 else strE [] 2
def unqV (s : ByteArray) : Value := if 2 ≤ s.size ∧ s.get! 0 = 34 ∧ s.get! (s.size - 1) = 34 then unqIn (unS (inner s) false []) else strE [] 1
theorem unqV_bad {s : ByteArray} (h : ¬ (2 ≤ s.size ∧ s.get! 0 = 34 ∧ s.get! (s.size - 1) = 34)) : unqV s = strE [] 1 := by unfold unqV; rw [if_neg h]
theorem unqV_in {s : ByteArray} (h : 2 ≤ s.size ∧ s.get! 0 = 34 ∧ s.get! (s.size - 1) = 34) : unqV s = unqIn (unS (inner s) false []) := by unfold unqV; rw [if_pos h]
theorem ne34 (s : ByteArray) (k : Nat) (h : k < s.size) : (((s[k]'h).toNat : Int) != 34) = decide (¬ s.get! k = 34) := by
  rw [get_bang s k h]
  rw [Bool.eq_iff_iff]
  simp only [bne_iff_ne, ne_eq, decide_eq_true_eq, ← UInt8.toNat_inj, UInt8.reduceToNat]
  omega

theorem unS_length : ∀ (l : List UInt8) (op : Bool) (out o : List UInt8), unS l op out = some o → o.length ≤ out.length + l.length
  | [], false, out, o, h => by rw [unS] at h; cases h; simp
  | [], true, out, o, h => by rw [unS] at h; cases h
  | c :: t, true, out, o, h => by
    rw [unS] at h
    split at h
    · have := unS_length t false (out ++ [c]) o h
      simp at this ⊢
      omega
    · cases h
  | c :: t, false, out, o, h => by
    rw [unS] at h
    split at h
    · cases h
    · split at h
      · have := unS_length t true out o h
        simp at this ⊢
        omega
      · have := unS_length t false (out ++ [c]) o h
        simp at this ⊢
        omega
theorem inner_eq (s : ByteArray) : inner s = (s.data.toList.take (s.size - 1)).drop 1 := by
  unfold inner
  rw [List.drop_take, show s.size - 1 - 1 = s.size - 2 by omega]
theorem rest_at (s : ByteArray) (k : Nat) (h : k + 1 < s.size) : (s.data.toList.take (s.size - 1)).drop k = s[k] :: (s.data.toList.take (s.size - 1)).drop (k + 1) := by
  have hl : s.data.toList.length = s.size := rfl
  have h' : k < (s.data.toList.take (s.size - 1)).length := by rw [List.length_take]; omega
  rw [List.drop_eq_getElem_cons h']
  congr 1
  rw [List.getElem_take]
  rfl
theorem rest_end (s : ByteArray) (k : Nat) (h : s.size ≤ k + 1) : (s.data.toList.take (s.size - 1)).drop k = [] := by
  apply List.drop_eq_nil_of_le
  rw [List.length_take]
  omega
theorem beqN {c d : UInt8} (h : ¬ c = d) (n : Int) (hn : (d.toNat : Int) = n) : ((c.toNat : Int) == n) = false := by
  rw [beq_eq_false_iff_ne]
  intro e
  exact h (UInt8.toNat_inj.1 (by omega))
theorem bneN {c d : UInt8} (h : ¬ c = d) (n : Int) (hn : (d.toNat : Int) = n) : ((c.toNat : Int) != n) = true := by
  unfold bne
  rw [beqN h n hn]
  rfl

/-- The digit of a number below ten. -/
def dgt (k : Nat) : UInt8 := UInt8.ofNat (48 + k)
theorem encode_low (r : Int) (h0 : 0 ≤ r) (h1 : r < 128) : Utf8.encode r = ⟨#[UInt8.ofNat r.toNat]⟩ := by
  have hv : Utf8.valid r = true := by
    unfold Utf8.valid
    simp
    omega
  unfold Utf8.encode
  rw [if_pos hv]
  simp only []
  rw [if_pos (by omega)]
theorem num_step (m : Nat) (x D : List UInt8) (h : Lib.decDigits m ++ x = D) :
    (m / 10 ≠ 0 → Lib.decDigits (m / 10) ++ (dgt (m % 10) :: x) = D) ∧ (m / 10 = 0 → dgt (m % 10) :: x = D) := by
  rw [Lib.decDigits] at h
  split at h
  · rename_i hlt
    refine ⟨fun h' => by omega, fun _ => ?_⟩
    rw [← h, show m % 10 = m by omega]
    rfl
  · rename_i hge
    refine ⟨fun _ => ?_, fun h' => by omega⟩
    rw [← h]
    simp [dgt]
theorem digits_le (m : Nat) (h : m < 18446744073709551616) : (Lib.decDigits m).length ≤ 20 := by
  rw [Lib.decDigits_length]
  exact Lib.nDigits_le20 m h
theorem append_data (a b : ByteArray) : (a ++ b).data.toList = a.data.toList ++ b.data.toList := by
  cases a; cases b
  simp [ByteArray.data_append]

theorem eta (s : ByteArray) : (⟨s.data.toList.toArray⟩ : ByteArray) = s := by cases s; simp

theorem tmod_neg (m : Int) (h : m ≤ 0) : m.tmod 10 = -((m.natAbs % 10 : Nat) : Int) := by
  obtain ⟨k, rfl⟩ : ∃ k : Nat, m = -(k : Int) := ⟨m.natAbs, by omega⟩
  rw [Int.neg_tmod, Int.natAbs_neg]
  rfl
theorem tdiv_neg (m : Int) (h : m ≤ 0) : m.tdiv 10 = -((m.natAbs / 10 : Nat) : Int) := by
  obtain ⟨k, rfl⟩ : ∃ k : Nat, m = -(k : Int) := ⟨m.natAbs, by omega⟩
  rw [Int.neg_tdiv, Int.natAbs_neg]
  rfl

/-- What the loop holds: what is left of the number, and the digits behind it. -/
def NumRel (n : Int) (a t : Value) : Prop :=
  ∃ (m : Int) (x : ByteArray), a = .int .i64 m ∧ t = .string x ∧ (n < 0 → m ≤ 0 ∧ -9223372036854775808 ≤ m) ∧ (0 ≤ n → 0 ≤ m ∧ m ≤ 9223372036854775807) ∧
    (m ≠ 0 → Lib.decDigits m.natAbs ++ x.data.toList = Lib.decDigits n.natAbs) ∧ (m = 0 → x.data.toList = Lib.decDigits n.natAbs)
theorem numRel_size {n m : Int} {x : ByteArray} (hn : n.natAbs < 18446744073709551616) (h1 : m ≠ 0 → Lib.decDigits m.natAbs ++ x.data.toList = Lib.decDigits n.natAbs) (h2 : m = 0 → x.data.toList = Lib.decDigits n.natAbs) : x.size ≤ 20 := by
  have hd := digits_le n.natAbs hn
  have hl : x.data.toList.length = x.size := rfl
  by_cases hm : m = 0
  · rw [← h2 hm] at hd; omega
  · rw [← h1 hm, List.length_append] at hd; omega

def isD (c : UInt8) : Bool := decide (48 ≤ c.toNat) && decide (c.toNat ≤ 57)
/-- The value of digits. -/
def valN (l : List UInt8) : Nat := l.foldl (fun n c => 10 * n + (c.toNat - 48)) 0
theorem valN_snoc (l : List UInt8) (c : UInt8) : valN (l ++ [c]) = 10 * valN l + (c.toNat - 48) := by simp [valN]
def numE (n e : Int) : Value := .tuple #[.int .i64 n, .int .i64 e]
/-- What digits come to: whether the text is "0", whether it has a sign, and the digits. -/
def parseD (z neg : Bool) (D : List UInt8) : Value :=
  if D = [] ∨ (D.head? = some 48 ∧ z = false) ∨ D.all isD = false then numE 0 1
  else if 1099511627776 < valN D then numE 0 3
  else numE (if neg then -(valN D : Int) else (valN D : Int)) 0
def isZ (s : ByteArray) : Bool := decide (s.data.toList = [48])
def parseV (s : ByteArray) : Value := parseD (isZ s) (Lib.hasPrefix s.data.toList [45]) (Lib.trimPrefix s.data.toList [45])

theorem digB_rune (s : ByteArray) (pos : Nat) (h : pos < s.size) : digB ((Utf8.decode s pos).1 : Nat) = isD (s.get! pos) := by
  rw [get_bang s pos h]
  unfold digB isD
  by_cases ha : (s[pos]'h).toNat < 128
  · rw [decode_ascii s pos h ha]
    rw [Bool.eq_iff_iff]
    simp only [Bool.and_eq_true, decide_eq_true_eq]
    omega
  · have := (decode_high s pos h (by omega)).1
    rw [Bool.eq_iff_iff]
    simp only [Bool.and_eq_true, decide_eq_true_eq]
    omega
theorem digit_rune (s : ByteArray) (pos : Nat) (h : pos < s.size) (hd : isD (s.get! pos) = true) : (Utf8.decode s pos).1 = (s.get! pos).toNat ∧ (Utf8.decode s pos).2 = 1 := by
  rw [get_bang s pos h] at hd ⊢
  unfold isD at hd
  simp only [Bool.and_eq_true, decide_eq_true_eq] at hd
  rw [decode_ascii s pos h (by omega)]
  exact ⟨rfl, rfl⟩
theorem take_get (s : ByteArray) (k : Nat) (h : k < s.size) : s.data.toList.take (k + 1) = s.data.toList.take k ++ [s.get! k] := by
  rw [take_snoc s k h, get_bang s k h]
theorem cap_step (v x : Nat) (hx : x ≤ 9) : min (10 * min v 1099511627777 + x) 1099511627777 = min (10 * v + x) 1099511627777 := by omega

/-- What the loop holds: the value of the digits so far, capped. -/
def PnRel (d : ByteArray) (I : Nat) (nv : Value) (w wr : World) : Prop :=
  ∃ pos : Nat, pos ≤ d.size ∧ (d.data.toList.take pos).all isD = true ∧ nv = .int .i64 ((min (valN (d.data.toList.take pos)) 1099511627777 : Nat) : Int) ∧ wr.heap[I]? = some (.stringIter d pos) ∧ Below w.heap.size w wr

theorem parseD_empty (z N : Bool) : parseD z N [] = numE 0 1 := by unfold parseD; rw [if_pos (Or.inl rfl)]
theorem parseD_zero (N : Bool) (D : List UInt8) (h : D.head? = some 48) : parseD false N D = numE 0 1 := by unfold parseD; rw [if_pos (Or.inr (Or.inl ⟨h, rfl⟩))]
theorem parseD_bad (z N : Bool) (D : List UInt8) (h : D.all isD = false) : parseD z N D = numE 0 1 := by unfold parseD; rw [if_pos (Or.inr (Or.inr h))]
theorem parseD_big (z N : Bool) (D : List UInt8) (h0 : D ≠ []) (h1 : ¬ (D.head? = some 48 ∧ z = false)) (h2 : D.all isD = true) (h3 : 1099511627776 < valN D) : parseD z N D = numE 0 3 := by
  unfold parseD
  rw [if_neg, if_pos h3]
  rintro (h | h | h)
  · exact h0 h
  · exact h1 h
  · rw [h2] at h; cases h
theorem parseD_ok (z N : Bool) (D : List UInt8) (h0 : D ≠ []) (h1 : ¬ (D.head? = some 48 ∧ z = false)) (h2 : D.all isD = true) (h3 : ¬ 1099511627776 < valN D) : parseD z N D = numE (if N then -(valN D : Int) else (valN D : Int)) 0 := by
  unfold parseD
  rw [if_neg, if_neg h3]
  rintro (h | h | h)
  · exact h0 h
  · exact h1 h
  · rw [h2] at h; cases h
theorem isZ_eq (s : ByteArray) : (s.toList == [48]) = isZ s := by
  unfold isZ
  rw [ByteArray.toList_eq, Bool.eq_iff_iff]
  simp
theorem all_not {l : List UInt8} {k : Nat} {c : UInt8} (h : l[k]? = some c) (hc : isD c = false) : l.all isD = false := by
  rw [List.all_eq_false]
  exact ⟨c, List.mem_of_getElem? h, by rw [hc]; simp⟩

theorem foldl_ge : ∀ (l : List UInt8) (a : Nat), a * 10 ^ l.length ≤ l.foldl (fun n c => 10 * n + (c.toNat - 48)) a
  | [], a => by simp
  | c :: t, a => by
    have h := foldl_ge t (10 * a + (c.toNat - 48))
    simp only [List.foldl_cons, List.length_cons, Nat.pow_succ]
    refine Nat.le_trans ?_ h
    rw [Nat.mul_comm (10 ^ t.length) 10, ← Nat.mul_assoc, Nat.mul_comm a 10]
    exact Nat.mul_le_mul_right _ (by omega)
theorem foldl_lt : ∀ (l : List UInt8) (a : Nat), l.all isD = true → l.foldl (fun n c => 10 * n + (c.toNat - 48)) a < (a + 1) * 10 ^ l.length
  | [], a, _ => by simp
  | c :: t, a, h => by
    rw [List.all_cons, Bool.and_eq_true] at h
    have h1 := foldl_lt t (10 * a + (c.toNat - 48)) h.2
    have hc : c.toNat ≤ 57 := by have := h.1; unfold isD at this; simp only [Bool.and_eq_true, decide_eq_true_eq] at this; exact this.2
    simp only [List.foldl_cons, List.length_cons, Nat.pow_succ]
    refine Nat.lt_of_lt_of_le h1 ?_
    rw [Nat.mul_comm (10 ^ t.length) 10, ← Nat.mul_assoc]
    exact Nat.mul_le_mul_right _ (by omega)
theorem valN_lt (l : List UInt8) (h : l.all isD = true) (h13 : l.length ≤ 13) : valN l < 10000000000000 := by
  have h1 := foldl_lt l 0 h
  rw [Nat.zero_add, Nat.one_mul] at h1
  exact Nat.lt_of_lt_of_le h1 (Nat.le_trans (Nat.pow_le_pow_right (by omega) h13) (by decide))
theorem valN_long (l : List UInt8) (h : l.all isD = true) (h13 : 13 < l.length) (h0 : ¬ l.head? = some 48) : 1099511627776 < valN l := by
  cases l with
  | nil => simp at h13
  | cons c t =>
    have hc : 49 ≤ c.toNat := by
      rw [List.all_cons, Bool.and_eq_true] at h
      have h1 := h.1
      unfold isD at h1
      simp only [Bool.and_eq_true, decide_eq_true_eq] at h1
      have : ¬ c = 48 := fun e => h0 (by rw [e]; rfl)
      have h2 : ¬ c.toNat = 48 := fun e => this (UInt8.toNat_inj.1 e)
      omega
    have h1 := foldl_ge t (10 * 0 + (c.toNat - 48))
    have h2 : 10 ^ 13 ≤ 10 ^ t.length := Nat.pow_le_pow_right (by omega) (by simp at h13; omega)
    have h3 : 1 * 10 ^ t.length ≤ (10 * 0 + (c.toNat - 48)) * 10 ^ t.length := Nat.mul_le_mul_right _ (by omega)
    have h4 : (1099511627776 : Nat) < 10 ^ 13 := by decide
    show 1099511627776 < t.foldl (fun n c => 10 * n + (c.toNat - 48)) (10 * 0 + (c.toNat - 48))
    omega
end Go.Proofs.YtmijfcdmnibnpaaGreatDoor
/- What the parts of a version are: plain definitions and laws, of no program. -/
namespace Go.Proofs.YtmijfcdmnibnpaaGreatDoor
open Go Go.RowKit

/-- Which number a text is, and the error. -/
def parseP (s : ByteArray) : Int × Int :=
  if Lib.trimPrefix s.data.toList [45] = [] ∨ ((Lib.trimPrefix s.data.toList [45]).head? = some 48 ∧ isZ s = false) ∨ (Lib.trimPrefix s.data.toList [45]).all isD = false then (0, 1)
  else if 1099511627776 < valN (Lib.trimPrefix s.data.toList [45]) then (0, 3)
  else (if Lib.hasPrefix s.data.toList [45] then -(valN (Lib.trimPrefix s.data.toList [45]) : Int) else (valN (Lib.trimPrefix s.data.toList [45]) : Int), 0)
theorem parseV_eq (s : ByteArray) : parseV s = numE (parseP s).1 (parseP s).2 := by
  unfold parseV parseD parseP
  split
  · rfl
  · split <;> rfl
theorem parseP_le (s : ByteArray) : -1099511627776 ≤ (parseP s).1 ∧ (parseP s).1 ≤ 1099511627776 := by
  unfold parseP
  split
  · exact ⟨by decide, by decide⟩
  · split
    · exact ⟨by decide, by decide⟩
    · simp only
      split <;> omega
theorem parseP_err (s : ByteArray) : (parseP s).2 = 0 ∨ (parseP s).2 = 1 ∨ (parseP s).2 = 3 := by
  unfold parseP
  split
  · exact .inr (.inl rfl)
  · split
    · exact .inr (.inr rfl)
    · exact .inl rfl
/-- How many bytes lie ahead of the first period. -/
def dots (l : List UInt8) : Nat := (l.takeWhile (· != 46)).length
theorem dots_eq : ∀ (l : List UInt8) (n : Nat), (∀ j, j < n → l[j]? ≠ some 46) → n ≤ l.length → (n = l.length ∨ l[n]? = some 46) → dots l = n
  | [], n, _, h2, _ => by
    have : n = 0 := by simpa using h2
    rw [this]
    rfl
  | c :: t, 0, _, _, h3 => by
    have hc : c = 46 := by simpa using h3
    simp [dots, hc]
  | c :: t, n + 1, h1, h2, h3 => by
    have hc : ¬ c = 46 := fun h => h1 0 (by omega) (by simp [h])
    have ih := dots_eq t n (fun j hj => by have := h1 (j + 1) (by omega); simpa using this) (by simpa using h2) (by simpa using h3)
    unfold dots at ih ⊢
    simp [hc, ih]
theorem dots_le (l : List UInt8) : dots l ≤ l.length := List.Sublist.length_le (List.takeWhile_sublist _)
def nextDot (s : ByteArray) (p : Nat) : Nat := p + dots (s.data.toList.drop p)
theorem at_get (s : ByteArray) (j : Nat) (h : j < s.size) : s.data.toList[j]? = some (s.get! j) := by
  rw [get_list s j h]
  simp [List.getD, h]
theorem nextDot_eq (s : ByteArray) (p q : Nat) (h0 : p ≤ q) (h1 : q ≤ s.size) (h2 : ∀ j, p ≤ j → j < q → s.get! j ≠ 46) (h3 : q = s.size ∨ s.get! q = 46) : nextDot s p = q := by
  have hl : s.data.toList.length = s.size := rfl
  have hd := dots_eq (s.data.toList.drop p) (q - p) (fun j hj e => by
      rw [List.getElem?_drop, at_get s (p + j) (by omega)] at e
      exact h2 (p + j) (by omega) (by omega) (Option.some.inj e)) (by rw [List.length_drop]; omega) (by
      rcases h3 with h3 | h3
      · exact .inl (by rw [List.length_drop]; omega)
      · by_cases hq : q < s.size
        · refine .inr ?_
          rw [List.getElem?_drop, show p + (q - p) = q from by omega, at_get s q hq, h3]
        · exact .inl (by rw [List.length_drop]; omega))
  unfold nextDot
  omega
/-- Where part number k begins. -/
def startAt (s : ByteArray) : Nat → Nat
  | 0 => 0
  | k + 1 => nextDot s (startAt s k) + 1
def segAt (s : ByteArray) (k : Nat) : ByteArray := s.extract (startAt s k) (nextDot s (startAt s k))
def verN (s : ByteArray) (k : Nat) : Int := (parseP (segAt s k)).1
def partOk (s : ByteArray) (k : Nat) : Prop := (parseP (segAt s k)).2 = 0 ∧ 0 ≤ verN s k ∧ verN s k ≤ 999999 ∧ (k < 2 ↔ nextDot s (startAt s k) < s.size)
instance (s : ByteArray) (k : Nat) : Decidable (partOk s k) := by unfold partOk; infer_instance
def verOk (s : ByteArray) : Prop := partOk s 0 ∧ partOk s 1 ∧ partOk s 2
instance (s : ByteArray) : Decidable (verOk s) := by unfold verOk; infer_instance
def fillV (s : ByteArray) (k : Nat) : List Int := [if 0 < k then verN s 0 else 0, if 1 < k then verN s 1 else 0, if 2 < k then verN s 2 else 0]
theorem fillV_set (s : ByteArray) (k : Nat) (h : k < 3) : (fillV s k).set k (verN s k) = fillV s (k + 1) := by
  match k, h with
  | 0, _ => rfl
  | 1, _ => rfl
  | 2, _ => rfl
  | k + 3, h => omega
/-- The three parts and whether the text is a version. -/
def verV (s : ByteArray) : Value :=
  if verOk s then .tuple #[.agg #[.int .i64 (verN s 0), .int .i64 (verN s 1), .int .i64 (verN s 2)], .bool true] else .tuple #[.agg #[.int .i64 0, .int .i64 0, .int .i64 0], .bool false]
theorem verV_bad (s : ByteArray) (k : Nat) (hk : k < 3) (h : ¬ partOk s k) : verV s = .tuple #[.agg #[.int .i64 0, .int .i64 0, .int .i64 0], .bool false] := by
  have hn : ¬ verOk s := by
    rintro ⟨h0, h1, h2⟩
    have hc : k = 0 ∨ k = 1 ∨ k = 2 := by omega
    rcases hc with rfl | rfl | rfl
    · exact h h0
    · exact h h1
    · exact h h2
  unfold verV
  rw [if_neg hn]
end Go.Proofs.YtmijfcdmnibnpaaGreatDoor
/- What a value is, and which error it has: plain definitions and laws, of no program. -/
namespace Go.Proofs.YtmijfcdmnibnpaaGreatDoor
open Go Go.RowKit

/-- a is at most b, byte by byte. -/
def leqT (a b : ByteArray) : Bool := Op.bytesLess a.toList b.toList || a.toList == b.toList
/-- Text number i is not at most the one ahead of it. -/
def ascAt (l : List ByteArray) (i : Nat) : Bool := i == 0 || !leqT (l.getD i ByteArray.empty) (l.getD (i - 1) ByteArray.empty)
def ascB (l : List ByteArray) : Bool := (List.range l.length).all (ascAt l)
def listE (l : List ByteArray) : Int := if 20 < l.length then 5 else if l.all validB = true then (if ascB l = true then 0 else 9) else 2
theorem ascB_yes (l : List ByteArray) (h : ∀ i, i < l.length → ascAt l i = true) : ascB l = true := by
  unfold ascB
  rw [List.all_eq_true]
  intro i hi
  exact h i (List.mem_range.1 hi)
theorem ascB_no (l : List ByteArray) (i : Nat) (hi : i < l.length) (h : ascAt l i = false) : ascB l = false := by
  unfold ascB
  rw [List.all_eq_false]
  exact ⟨i, List.mem_range.2 hi, by simp [h]⟩
theorem validAll_no (l : List ByteArray) (i : Nat) (hi : i < l.length) (h : validB l[i] = false) : l.all validB = false := by
  rw [List.all_eq_false]
  exact ⟨l[i], List.getElem_mem hi, by simp [h]⟩
theorem validAll_step (l : List ByteArray) (i : Nat) (hi : i < l.length) (h0 : (l.take i).all validB = true) (h : validB l[i] = true) : (l.take (i + 1)).all validB = true := by
  rw [List.take_succ_eq_append_getElem hi, List.all_append, h0]
  simp [h]
structure Val where
  kind : Int
  num : Int
  text : ByteArray
  list : List ByteArray
/-- Only the fields of the kind are not zero. -/
def shapeP (x : Val) : Prop := ((x.kind = 1 ∨ x.kind = 2) ∨ x.num = 0) ∧ ((x.kind = 3 ∨ x.kind = 4) ∨ x.text.size = 0) ∧ (x.kind = 5 ∨ x.list.length = 0)
instance (x : Val) : Decidable (shapeP x) := by unfold shapeP; infer_instance
def checkE (x : Val) : Int :=
  if x.kind < 1 ∨ 5 < x.kind then 7
  else if ¬ shapeP x then 15
  else if x.kind = 1 then (if x.num = 0 ∨ x.num = 1 then 0 else 3)
  else if x.kind = 2 then (if x.num < -1099511627776 ∨ 1099511627776 < x.num then 3 else 0)
  else if x.kind = 3 then (if validB x.text = true then 0 else 2)
  else if x.kind = 4 then (if verOk x.text then 0 else 1)
  else listE x.list
/-- The texts of a slice that came in. -/
def TextsAre (a0 : Option Addr) (l : List ByteArray) (w : World) : Prop := ∀ i (h : i < l.length), ∃ (b off : Nat), a0 = some ⟨b, off, none⟩ ∧ b < w.heap.size ∧ w.cell? ⟨b, off + i, none⟩ = some (.string l[i])
theorem TextsAre.below {a : Option Addr} {l : List ByteArray} {w w' : World} {B : Nat} (h : TextsAre a l w) (hB : w.heap.size ≤ B) (hb : Below B w w') : TextsAre a l w' := by
  intro i hi
  obtain ⟨b, off, rfl, hlt, hc⟩ := h i hi
  exact ⟨b, off, rfl, by have := hb.size; omega, (hb.cell (p := ⟨b, off + i, none⟩) (by show b < B; omega)).trans hc⟩
theorem linkB {w w1 w2 : World} (h : Below w.heap.size w w1) (h2 : Below w1.heap.size w1 w2) : Below w.heap.size w w2 := h.trans (h2.mono h.size)
end Go.Proofs.YtmijfcdmnibnpaaGreatDoor
/- The pieces of a text between its first two periods: plain laws, of no program. -/
namespace Go.Proofs.YtmijfcdmnibnpaaGreatDoor
open Go Go.RowKit

theorem dots_lt_or (l : List UInt8) : Lib.indexByte l 46 = if dots l < l.length then (dots l : Int) else -1 := by
  induction l with
  | nil => rfl
  | cons c t ih =>
    unfold Lib.indexByte
    by_cases hc : c = 46
    · subst hc
      simp [dots]
    · have h1 : (c == 46) = false := by rw [beq_eq_false_iff_ne]; exact hc
      have h2 : dots (c :: t) = dots t + 1 := by simp [dots, hc]
      rw [h1, h2, ih]
      simp only [List.length_cons, Bool.false_eq_true, if_false]
      by_cases h3 : dots t < t.length
      · rw [if_pos h3, if_neg (by rw [beq_iff_eq]; omega), if_pos (by omega)]
        omega
      · have h4 : ¬ dots t + 1 < t.length + 1 := by omega
        simp [h3, h4]
theorem dots_no : ∀ (l : List UInt8) (j : Nat), j < dots l → l[j]? ≠ some 46
  | [], j, h => by simp [dots] at h
  | c :: t, j, h => by
    by_cases hc : c = 46
    · subst hc; simp [dots] at h
    · have h2 : dots (c :: t) = dots t + 1 := by simp [dots, hc]
      cases j with
      | zero => simpa using hc
      | succ j => simpa using dots_no t j (by omega)
theorem dots_at (l : List UInt8) (h : dots l < l.length) : l[dots l]? = some 46 := by
  induction l with
  | nil => simp at h
  | cons c t ih =>
    by_cases hc : c = 46
    · subst hc; simp [dots]
    · have h2 : dots (c :: t) = dots t + 1 := by simp [dots, hc]
      rw [h2] at h ⊢
      simpa using ih (by simpa using h)
theorem nextDot_le (s : ByteArray) (p : Nat) (h : p ≤ s.size) : nextDot s p ≤ s.size := by
  have h1 := dots_le (s.data.toList.drop p)
  have h2 : s.data.toList.length = s.size := rfl
  rw [List.length_drop] at h1
  unfold nextDot
  omega
theorem nextDot_ge (s : ByteArray) (p : Nat) : p ≤ nextDot s p := Nat.le_add_right _ _
/-- What strings.Index finds in what is left of a text. -/
theorem index_rest (s : ByteArray) (p : Nat) (h : p ≤ s.size) : Lib.indexByte (s.extract p s.size).data.toList 46 = if nextDot s p < s.size then ((nextDot s p - p : Nat) : Int) else -1 := by
  have h2 : s.data.toList.length = s.size := rfl
  have he : (s.extract p s.size).data.toList = s.data.toList.drop p := by rw [Lib.extract_data]; exact List.take_of_length_le (by rw [List.length_drop]; omega)
  rw [he, dots_lt_or, List.length_drop]
  have h1 := dots_le (s.data.toList.drop p)
  rw [List.length_drop] at h1
  unfold nextDot
  by_cases h3 : dots (s.data.toList.drop p) < s.data.toList.length - p
  · rw [if_pos h3, if_pos (by omega)]
    omega
  · rw [if_neg h3, if_neg (by omega)]
theorem extract_extract_head (s : ByteArray) (p m : Nat) (_h : p + m ≤ s.size) : (s.extract p s.size).extract 0 m = s.extract p (p + m) := by
  apply ByteArray.ext
  apply Array.toList_inj.1
  rw [Lib.extract_data, Lib.extract_data, Lib.extract_data]
  simp only [List.drop_zero, Nat.sub_zero]
  rw [List.take_take]
  congr 1
  omega
theorem extract_extract_tail (s : ByteArray) (p m : Nat) (_h : p + m ≤ s.size) : (s.extract p s.size).extract m (s.extract p s.size).size = s.extract (p + m) s.size := by
  have hz : (s.extract p s.size).size = s.size - p := by rw [ByteArray.size_extract]; omega
  rw [hz]
  apply ByteArray.ext
  apply Array.toList_inj.1
  rw [Lib.extract_data, Lib.extract_data, Lib.extract_data]
  have h2 : s.data.toList.length = s.size := rfl
  rw [List.take_of_length_le (by simp), List.drop_take, List.drop_drop]
  congr 1
  omega
/-- A text with a period is no number. -/
theorem parseP_dot (s : ByteArray) (j : Nat) (h : s.data.toList[j]? = some 46) : (parseP s).2 ≠ 0 := by
  have hall : (Lib.trimPrefix s.data.toList [45]).all isD = false := by
    unfold Lib.trimPrefix
    split
    · rename_i hp
      have hj : j ≠ 0 := by
        rintro rfl
        unfold Lib.hasPrefix at hp
        cases hl : s.data.toList with
        | nil => rw [hl] at h; cases h
        | cons c t =>
          rw [hl] at h hp
          simp at h
          subst h
          simp at hp
      obtain ⟨i, rfl⟩ : ∃ i, j = i + 1 := ⟨j - 1, by omega⟩
      refine all_not (k := i) (c := 46) ?_ rfl
      rw [List.getElem?_drop]
      simpa [Nat.add_comm] using h
    · exact all_not (k := j) h rfl
  unfold parseP
  rw [if_pos (Or.inr (Or.inr hall))]
  simp
/-- How far a text is cut: the first i pieces end at periods; where fewer than two are found, what is left has none. -/
structure Cut3 (s : ByteArray) (i : Nat) : Prop where
  two : i ≤ 2
  dot : ∀ j, j < i → nextDot s (startAt s j) < s.size
  left : startAt s i ≤ s.size
  last : i < 2 → nextDot s (startAt s i) = s.size
def restAt (s : ByteArray) (i : Nat) : ByteArray := s.extract (startAt s i) s.size
theorem Cut3.short {s : ByteArray} {i : Nat} (h : Cut3 s i) (hi : i < 2) : ¬ verOk s := by
  have hl := h.last hi
  have hn : ¬ partOk s i := fun hp => by
    have := (hp.2.2.2).1 hi
    omega
  rintro ⟨h0, h1, _⟩
  obtain rfl | rfl : i = 0 ∨ i = 1 := by omega
  · exact hn h0
  · exact hn h1
/-- What a field's number must be. -/
def fieldOk (t : ByteArray) : Prop := (parseP t).2 = 0 ∧ 0 ≤ (parseP t).1 ∧ (parseP t).1 ≤ 999999
instance (t : ByteArray) : Decidable (fieldOk t) := by unfold fieldOk; infer_instance
theorem Cut3.part {s : ByteArray} (h : Cut3 s 2) (j : Nat) (hj : j < 2) : partOk s j ↔ fieldOk (segAt s j) := by
  unfold partOk fieldOk verN
  have hd := h.dot j hj
  constructor
  · rintro ⟨a, b, c, _⟩; exact ⟨a, b, c⟩
  · rintro ⟨a, b, c⟩; exact ⟨a, b, c, fun _ => hd, fun _ => hj⟩
theorem Cut3.part2 {s : ByteArray} (h : Cut3 s 2) : (partOk s 2 ↔ fieldOk (restAt s 2)) ∧ (partOk s 2 → restAt s 2 = segAt s 2) := by
  have hl := nextDot_le s (startAt s 2) h.left
  have hg := nextDot_ge s (startAt s 2)
  by_cases hd : nextDot s (startAt s 2) < s.size
  · have hno : ¬ partOk s 2 := fun hp => by
      have := (hp.2.2.2).2 hd
      omega
    have h2 : s.data.toList.length = s.size := rfl
    have hbad : ¬ fieldOk (restAt s 2) := by
      intro hf
      refine parseP_dot (restAt s 2) (nextDot s (startAt s 2) - startAt s 2) ?_ hf.1
      unfold restAt
      rw [Lib.extract_data, List.getElem?_take, if_pos (by omega), List.getElem?_drop, ← dots_at (s.data.toList.drop (startAt s 2)) (by rw [List.length_drop]; unfold nextDot at hd; omega), List.getElem?_drop]
      congr 1
      unfold nextDot
      omega
    exact ⟨⟨fun h => absurd h hno, fun h => absurd h hbad⟩, fun h => absurd h hno⟩
  · have he : nextDot s (startAt s 2) = s.size := by omega
    have hs : restAt s 2 = segAt s 2 := by unfold restAt segAt; rw [he]
    refine ⟨?_, fun _ => hs⟩
    rw [hs]
    unfold partOk fieldOk verN
    constructor
    · rintro ⟨a, b, c, _⟩; exact ⟨a, b, c⟩
    · rintro ⟨a, b, c⟩; exact ⟨a, b, c, fun h => absurd h (by omega), fun h => absurd h (by omega)⟩
end Go.Proofs.YtmijfcdmnibnpaaGreatDoor
/- The end of a quoted text: plain laws, of no program. -/
namespace Go.Proofs.YtmijfcdmnibnpaaGreatDoor
open Go Go.RowKit

/-- How many bytes up to and with the first quotation mark that has no backslash ahead of it. -/
def endL : List UInt8 → Option Nat
  | [] => none
  | [c] => if c = 34 then some 1 else none
  | c :: d :: t => if c = 92 then (endL t).map (· + 2) else if c = 34 then some 1 else (endL (d :: t)).map (· + 1)
def endAt (s : ByteArray) (k : Nat) : Int := match endL (s.data.toList.drop k) with
  | some d => ((k + d : Nat) : Int)
  | none => -1
theorem endAt_out (s : ByteArray) (k : Nat) (h : s.size ≤ k) : endAt s k = -1 := by
  unfold endAt
  rw [List.drop_eq_nil_of_le (by exact h)]
  rfl
theorem endAt_quote (s : ByteArray) (k : Nat) (h : k < s.size) (hq : s.get! k = 34) : endAt s k = ((k + 1 : Nat) : Int) := by
  unfold endAt
  rw [drop_at s k h, hq]
  cases s.data.toList.drop (k + 1) <;> simp [endL]
theorem endAt_esc (s : ByteArray) (k : Nat) (h : k < s.size) (hq : s.get! k = 92) : endAt s k = endAt s (k + 2) := by
  unfold endAt
  rw [drop_at s k h, hq]
  by_cases h2 : k + 1 < s.size
  · rw [drop_at s (k + 1) h2]
    simp only [endL, if_true]
    cases endL (s.data.toList.drop (k + 1 + 1)) with
    | none => rfl
    | some d => show ((k + (d + 2) : Nat) : Int) = ((k + 2 + d : Nat) : Int); omega
  · have hl : s.data.toList.length = s.size := rfl
    rw [List.drop_eq_nil_of_le (show s.data.toList.length ≤ k + 1 by omega), List.drop_eq_nil_of_le (show s.data.toList.length ≤ k + 2 by omega)]
    simp [endL]
theorem endAt_next (s : ByteArray) (k : Nat) (h : k < s.size) (h1 : s.get! k ≠ 92) (h2 : s.get! k ≠ 34) : endAt s k = endAt s (k + 1) := by
  unfold endAt
  rw [drop_at s k h]
  cases hd : s.data.toList.drop (k + 1) with
  | nil => simp [endL, h2]
  | cons c t =>
    simp only [endL, h1, h2, if_false]
    cases endL (c :: t) with
    | none => rfl
    | some d => show ((k + (d + 1) : Nat) : Int) = ((k + 1 + d : Nat) : Int); omega
end Go.Proofs.YtmijfcdmnibnpaaGreatDoor
/- Which value a text is the source form of: plain definitions and laws, of no program. -/
namespace Go.Proofs.YtmijfcdmnibnpaaGreatDoor
open Go Go.RowKit

/-- A text without its quotation marks, and the error. -/
def unqP (s : ByteArray) : ByteArray × Int :=
  if 2 ≤ s.size ∧ s.get! 0 = 34 ∧ s.get! (s.size - 1) = 34 then
    (match unS (inner s) false [] with
    | none => (⟨#[]⟩, 1)
    | some o => if validB ⟨o.toArray⟩ then (⟨o.toArray⟩, 0) else (⟨#[]⟩, 2))
  else (⟨#[]⟩, 1)
theorem unqV_eq (s : ByteArray) : unqV s = .tuple #[.string (unqP s).1, .int .i64 (unqP s).2] := by
  unfold unqV unqP
  split
  · cases unS (inner s) false [] with
    | none => rfl
    | some o =>
      unfold unqIn
      simp only
      split <;> rfl
  · rfl
theorem endL_unS : ∀ (l out o t : List UInt8), unS l false out = some o → endL (l ++ 34 :: t) = some (l.length + 1)
  | [], out, o, t, _ => by cases t <;> simp [endL]
  | [c], out, o, t, h => by
    rw [unS] at h
    by_cases h1 : c = 34
    · rw [if_pos h1] at h; cases h
    · rw [if_neg h1] at h
      by_cases h2 : c = 92
      · rw [if_pos h2, unS] at h; cases h
      · have ih := endL_unS [] [] [] t (by simp [unS])
        simp only [List.nil_append, List.length_nil, Nat.zero_add] at ih
        show endL (c :: 34 :: t) = _
        rw [endL, if_neg h2, if_neg h1, ih]
        rfl
  | c :: d :: rest, out, o, t, h => by
    rw [unS] at h
    by_cases h1 : c = 34
    · rw [if_pos h1] at h; cases h
    · rw [if_neg h1] at h
      by_cases h2 : c = 92
      · rw [if_pos h2, unS] at h
        by_cases h3 : isEsc d = true
        · rw [if_pos h3] at h
          have ih := endL_unS rest _ o t h
          show endL (c :: d :: (rest ++ 34 :: t)) = _
          rw [endL, if_pos h2, ih]
          rfl
        · rw [if_neg h3] at h; cases h
      · rw [if_neg h2] at h
        have ih := endL_unS (d :: rest) _ o t h
        show endL (c :: d :: (rest ++ 34 :: t)) = _
        rw [endL, if_neg h2, if_neg h1]
        show (endL (d :: rest ++ 34 :: t)).map (· + 1) = _
        rw [ih]
        rfl
theorem endL_le : ∀ (l : List UInt8) (d : Nat), endL l = some d → 1 ≤ d ∧ d ≤ l.length
  | [], d, h => by cases h
  | [c], d, h => by
    rw [endL] at h
    split at h
    · cases h; simp
    · cases h
  | c :: e :: t, d, h => by
    rw [endL] at h
    split at h
    · cases hx : endL t with
      | none => rw [hx] at h; cases h
      | some k =>
        rw [hx] at h
        cases h
        have := endL_le t k hx
        simp only [List.length_cons]
        omega
    · split at h
      · cases h; simp
      · cases hx : endL (e :: t) with
        | none => rw [hx] at h; cases h
        | some k =>
          rw [hx] at h
          cases h
          have := endL_le (e :: t) k hx
          simp only [List.length_cons] at this ⊢
          omega
/-- A text that is quoted ends. -/
theorem inner_last (s : ByteArray) (h2 : 2 ≤ s.size) (hl : s.get! (s.size - 1) = 34) : s.data.toList.drop 1 = inner s ++ [34] := by
  have hs : s.data.toList.length = s.size := rfl
  unfold inner
  have h3 : (s.data.toList.drop 1).drop (s.size - 2) = [34] := by
    rw [List.drop_drop, show 1 + (s.size - 2) = s.size - 1 by omega, drop_at s (s.size - 1) (by omega), hl, List.drop_eq_nil_of_le (by rw [hs]; omega)]
  rw [← h3, List.take_append_drop]
theorem unqP_end (s : ByteArray) (h : endL (s.data.toList.drop 1) = none) : (unqP s).2 ≠ 0 := by
  unfold unqP
  split
  · rename_i hc
    cases hu : unS (inner s) false [] with
    | none => simp
    | some o =>
      exfalso
      rw [inner_last s hc.1 hc.2.2] at h
      have := endL_unS (inner s) [] o [] hu
      rw [this] at h
      cases h
  · simp
theorem unqP_first (s : ByteArray) (h : s.get! 0 ≠ 34) : (unqP s).2 ≠ 0 := by
  unfold unqP
  rw [if_neg (fun hc => h hc.2.1)]
  simp
theorem unqP_err (s : ByteArray) : (unqP s).2 = 0 ∨ (unqP s).2 = 1 ∨ (unqP s).2 = 2 := by
  unfold unqP
  split
  · split
    · exact .inr (.inl rfl)
    · split
      · exact .inl rfl
      · exact .inr (.inr rfl)
  · exact .inr (.inl rfl)
theorem unqP_text (s : ByteArray) (h : (unqP s).2 ≠ 0) : (unqP s).1 = ⟨#[]⟩ := by
  unfold unqP at h ⊢
  split
  · rename_i hc
    rw [if_pos hc] at h
    split
    · rfl
    · rename_i o ho
      rw [ho] at h
      simp only at h
      split
      · rename_i hv
        rw [if_pos hv] at h
        exact absurd rfl h
      · rfl
  · rfl
/-- The texts of a list in source form, from the first quotation mark on. -/
def elemsF : Nat → ByteArray → Option (List ByteArray)
  | 0, _ => none
  | f + 1, r => match endL (r.data.toList.drop 1) with
    | none => none
    | some d =>
      if (unqP (r.extract 0 (d + 1))).2 = 0 then
        (if r.extract (d + 1) r.size = ⟨#[93]⟩ then some [(unqP (r.extract 0 (d + 1))).1]
        else if Lib.hasPrefix (r.extract (d + 1) r.size).data.toList [44, 32] = true then (elemsF f ((r.extract (d + 1) r.size).extract 2 (r.extract (d + 1) r.size).size)).map ((unqP (r.extract 0 (d + 1))).1 :: ·)
        else none)
      else none
theorem elemsF_none (f : Nat) (r : ByteArray) (h : endL (r.data.toList.drop 1) = none) : elemsF f r = none := by
  cases f with
  | zero => rfl
  | succ f => rw [elemsF, h]
theorem elemsF_empty (f : Nat) (r : ByteArray) (h : r.size = 0) : elemsF f r = none := by
  refine elemsF_none f r ?_
  have hs : r.data.toList.length = r.size := rfl
  rw [List.drop_eq_nil_of_le (by omega)]
  rfl
theorem elemsF_bad (f : Nat) (r : ByteArray) (d : Nat) (h : endL (r.data.toList.drop 1) = some d) (hu : (unqP (r.extract 0 (d + 1))).2 ≠ 0) : elemsF f r = none := by
  cases f with
  | zero => rfl
  | succ f => rw [elemsF, h]; exact if_neg hu
theorem elemsF_last (f : Nat) (r : ByteArray) (d : Nat) (hf : r.size ≤ f) (h : endL (r.data.toList.drop 1) = some d) (hu : (unqP (r.extract 0 (d + 1))).2 = 0) (hr : r.extract (d + 1) r.size = ⟨#[93]⟩) : elemsF f r = some [(unqP (r.extract 0 (d + 1))).1] := by
  cases f with
  | zero =>
    have := endL_le _ _ h
    have hs : r.data.toList.length = r.size := rfl
    rw [List.length_drop] at this
    omega
  | succ f => rw [elemsF, h]; simp only; rw [if_pos hu, if_pos hr]
theorem elemsF_next (f : Nat) (r : ByteArray) (d : Nat) (h : endL (r.data.toList.drop 1) = some d) (hu : (unqP (r.extract 0 (d + 1))).2 = 0) (hr : r.extract (d + 1) r.size ≠ ⟨#[93]⟩) (hp : Lib.hasPrefix (r.extract (d + 1) r.size).data.toList [44, 32] = true) : elemsF (f + 1) r = (elemsF f ((r.extract (d + 1) r.size).extract 2 (r.extract (d + 1) r.size).size)).map ((unqP (r.extract 0 (d + 1))).1 :: ·) := by
  rw [elemsF, h]; simp only; rw [if_pos hu, if_neg hr, if_pos hp]
theorem elemsF_cut (f : Nat) (r : ByteArray) (d : Nat) (h : endL (r.data.toList.drop 1) = some d) (hr : r.extract (d + 1) r.size ≠ ⟨#[93]⟩) (hp : Lib.hasPrefix (r.extract (d + 1) r.size).data.toList [44, 32] ≠ true) : elemsF f r = none := by
  cases f with
  | zero => rfl
  | succ f =>
    rw [elemsF, h]
    simp only
    split <;> rfl
/-- The texts of a list in source form. -/
def listP (s : ByteArray) : Option (List ByteArray) :=
  if s = ⟨#[91, 93]⟩ then some [] else if Lib.hasPrefix s.data.toList [91] = true then elemsF s.size (s.extract 1 s.size) else none
/-- Which kind of value a text can be the source form of. -/
def formP (s : ByteArray) : Int :=
  if s = ⟨#[116, 114, 117, 101]⟩ ∨ s = ⟨#[102, 97, 108, 115, 101]⟩ then 1
  else if Lib.hasPrefix s.data.toList [34] = true then 3
  else if Lib.hasPrefix s.data.toList [91] = true then 5
  else if 0 ≤ Lib.indexByte s.data.toList 46 then 4 else 2
/-- The only value, valid or not, that a text can be the source form of. -/
def readP (s : ByteArray) : Val × Bool :=
  if formP s = 1 then (⟨1, if s = ⟨#[116, 114, 117, 101]⟩ then 1 else 0, ⟨#[]⟩, []⟩, true)
  else if formP s = 2 then (⟨2, (parseP s).1, ⟨#[]⟩, []⟩, decide ((parseP s).2 = 0))
  else if formP s = 3 then (⟨3, 0, (unqP s).1, []⟩, decide ((unqP s).2 = 0))
  else if formP s = 4 then (⟨4, 0, s, []⟩, true)
  else (⟨5, 0, ⟨#[]⟩, (listP s).getD []⟩, (listP s).isSome)
/-- The value whose source form a text is, or the error. -/
def parseR (s : ByteArray) : Val × Int := if (readP s).2 = true ∧ checkE (readP s).1 = 0 then ((readP s).1, 0) else (⟨0, 0, ⟨#[]⟩, []⟩, 1)
theorem formP_cases (s : ByteArray) : formP s = 1 ∨ formP s = 2 ∨ formP s = 3 ∨ formP s = 4 ∨ formP s = 5 := by
  unfold formP
  split
  · exact .inl rfl
  · split
    · exact .inr (.inr (.inl rfl))
    · split
      · exact .inr (.inr (.inr (.inr rfl)))
      · split
        · exact .inr (.inr (.inr (.inl rfl)))
        · exact .inr (.inl rfl)
end Go.Proofs.YtmijfcdmnibnpaaGreatDoor
/- Decimal forms and quoted texts are read as they were; the text of a version: plain laws, of no program. -/
namespace Go.Proofs.YtmijfcdmnibnpaaGreatDoor
open Go Go.RowKit

theorem isD_dgt (k : Nat) (h : k < 10) : isD (UInt8.ofNat (48 + k)) = true := by
  unfold isD
  rw [UInt8.toNat_ofNat']
  simp
  omega
theorem dgt_val (k : Nat) (h : k < 10) : (UInt8.ofNat (48 + k)).toNat - 48 = k := by
  rw [UInt8.toNat_ofNat']
  omega
theorem decDigits_all : ∀ u : Nat, (Lib.decDigits u).all isD = true ∧ valN (Lib.decDigits u) = u ∧ ((Lib.decDigits u).head? = some 48 ↔ u = 0) ∧ Lib.decDigits u ≠ [] := by
  intro u
  induction u using Nat.strongRecOn with
  | _ u ih =>
    rw [Lib.decDigits]
    split
    · rename_i hlt
      refine ⟨by rw [List.all_cons, isD_dgt u hlt]; rfl, ?_, ?_, by simp⟩
      · show 10 * 0 + ((UInt8.ofNat (48 + u)).toNat - 48) = u
        rw [dgt_val u hlt]; omega
      · simp only [List.head?_cons, Option.some.injEq]
        rw [← UInt8.toNat_inj, UInt8.toNat_ofNat']
        simp only [UInt8.reduceToNat]
        omega
    · rename_i hge
      obtain ⟨h1, h2, h3, h4⟩ := ih (u / 10) (by omega)
      refine ⟨by rw [List.all_append, h1, List.all_cons, isD_dgt _ (by omega)]; rfl, ?_, ?_, by simp⟩
      · rw [valN_snoc, h2, dgt_val _ (by omega)]; omega
      · rw [List.head?_append]
        have : ((Lib.decDigits (u / 10)).head?.or ([UInt8.ofNat (48 + u % 10)] : List UInt8).head?) = (Lib.decDigits (u / 10)).head? := by
          cases hd : Lib.decDigits (u / 10) with
          | nil => exact absurd hd h4
          | cons a t => rfl
        rw [this, h3]
        omega

/-- The decimal form of a number is read as the number, or is out of range. -/
theorem parse_itoa (n : Int) : parseV ⟨(Lib.itoa n).toArray⟩ = if -1099511627776 ≤ n ∧ n ≤ 1099511627776 then numE n 0 else numE 0 3 := by
  obtain ⟨h1, h2, h3, h4⟩ := decDigits_all n.natAbs
  unfold parseV
  show parseD (decide (Lib.itoa n = [48])) (Lib.hasPrefix (Lib.itoa n) [45]) (Lib.trimPrefix (Lib.itoa n) [45]) = _
  have hd45 : ∀ t, Lib.decDigits n.natAbs ≠ 45 :: t := by
    intro t e
    rw [e, List.all_cons] at h1
    have : isD 45 = false := by decide
    rw [this] at h1
    cases h1
  by_cases hn : n < 0
  · have hi : Lib.itoa n = 45 :: Lib.decDigits n.natAbs := by unfold Lib.itoa; rw [if_pos hn]
    have hp : Lib.hasPrefix (45 :: Lib.decDigits n.natAbs) [45] = true := by simp [Lib.hasPrefix, List.isPrefixOf]
    have ht : Lib.trimPrefix (45 :: Lib.decDigits n.natAbs) [45] = Lib.decDigits n.natAbs := by unfold Lib.trimPrefix; rw [if_pos hp]; rfl
    rw [hi, hp, ht, decide_eq_false (by simp)]
    have hh : ¬ ((Lib.decDigits n.natAbs).head? = some 48 ∧ (false : Bool) = false) := by
      rintro ⟨h, _⟩
      have := h3.1 h
      omega
    by_cases hb : 1099511627776 < valN (Lib.decDigits n.natAbs)
    · rw [parseD_big _ _ _ h4 hh h1 hb, if_neg (by rw [h2] at hb; omega)]
    · rw [parseD_ok _ _ _ h4 hh h1 hb, if_pos rfl, if_pos (show -1099511627776 ≤ n ∧ n ≤ 1099511627776 by rw [h2] at hb; omega), h2, show -(n.natAbs : Int) = n by omega]
  · have hi : Lib.itoa n = Lib.decDigits n.natAbs := by unfold Lib.itoa; rw [if_neg hn, show n.toNat = n.natAbs by omega]
    have hp : Lib.hasPrefix (Lib.decDigits n.natAbs) [45] = false := by
      cases hd : Lib.decDigits n.natAbs with
      | nil => rfl
      | cons a t =>
        have : ¬ a = 45 := fun e => hd45 t (by rw [hd, e])
        simp [Lib.hasPrefix, List.isPrefixOf]
        exact fun e => this e.symm
    have ht : Lib.trimPrefix (Lib.decDigits n.natAbs) [45] = Lib.decDigits n.natAbs := by unfold Lib.trimPrefix; rw [if_neg (by rw [hp]; simp)]
    rw [hi, hp, ht]
    have hh : ¬ ((Lib.decDigits n.natAbs).head? = some 48 ∧ decide (Lib.decDigits n.natAbs = [48]) = false) := by
      rintro ⟨h, h'⟩
      have h0 := h3.1 h
      rw [h0] at h'
      rw [Lib.decDigits_one (by omega)] at h'
      simp at h'
    by_cases hb : 1099511627776 < valN (Lib.decDigits n.natAbs)
    · rw [parseD_big _ _ _ h4 hh h1 hb, if_neg (by rw [h2] at hb; omega)]
    · rw [parseD_ok _ _ _ h4 hh h1 hb, if_neg (show ¬ (false : Bool) = true by simp), if_pos (show -1099511627776 ≤ n ∧ n ≤ 1099511627776 by rw [h2] at hb; omega), h2, show (n.natAbs : Int) = n by omega]

theorem unS_escL : ∀ (l out : List UInt8), unS (escL l) false out = some (out ++ l)
  | [], out => by simp [escL, unS]
  | c :: t, out => by
    have e : escL (c :: t) = (if isEsc c then [92, c] else [c]) ++ escL t := rfl
    rw [e]
    cases hc : isEsc c with
    | true =>
      rw [if_pos rfl]
      show unS (92 :: c :: escL t) false out = _
      rw [unS, if_neg (by decide), if_pos rfl, unS, if_pos hc, unS_escL t]
      simp
    | false =>
      rw [if_neg (by simp)]
      show unS (c :: escL t) false out = _
      have h1 : ¬ c = 34 := by rintro rfl; cases hc
      have h2 : ¬ c = 92 := by rintro rfl; cases hc
      rw [unS, if_neg h1, if_neg h2, unS_escL t]
      simp
/-- What was quoted is read as it was. -/
theorem unqV_quote (t : ByteArray) (hv : validB t = true) : unqV ⟨(quoteL t.data.toList).toArray⟩ = strE t.data.toList 0 := by
  have hsz : (⟨(quoteL t.data.toList).toArray⟩ : ByteArray).size = (escL t.data.toList).length + 2 := by
    show (quoteL t.data.toList).toArray.size = _
    simp [quoteL]
  have h0 : (⟨(quoteL t.data.toList).toArray⟩ : ByteArray).get! 0 = 34 := by
    rw [get_list _ 0 (by rw [hsz]; omega)]
    rfl
  have h1 : (⟨(quoteL t.data.toList).toArray⟩ : ByteArray).get! ((⟨(quoteL t.data.toList).toArray⟩ : ByteArray).size - 1) = 34 := by
    rw [get_list _ _ (by rw [hsz]; omega), hsz]
    simp [quoteL, List.getD]
  rw [unqV_in ⟨by rw [hsz]; omega, h0, h1⟩]
  have hin : inner ⟨(quoteL t.data.toList).toArray⟩ = escL t.data.toList := by
    unfold inner
    rw [hsz]
    simp [quoteL]
  rw [hin, unS_escL, List.nil_append]
  show (if validB ⟨t.data.toList.toArray⟩ then strE t.data.toList 0 else strE [] 2) = _
  rw [eta, if_pos hv]

theorem digits_small (n : Nat) : (Lib.decDigits n).all isD = true := (decDigits_all n).1
theorem itoa_nat (n : Int) (h : 0 ≤ n) : (Lib.itoa n).all isD = true := by
  unfold Lib.itoa
  rw [if_neg (by omega)]
  exact digits_small _
theorem parseP_itoa (n : Int) (h0 : 0 ≤ n) (h1 : n ≤ 999999) : parseP ⟨(Lib.itoa n).toArray⟩ = (n, 0) := by
  have h := parse_itoa n
  rw [if_pos (by omega), parseV_eq] at h
  unfold numE at h
  injection h with h
  have e1 := congrArg (fun a : Array Value => a[0]?) h
  have e2 := congrArg (fun a : Array Value => a[1]?) h
  simp at e1 e2
  exact Prod.ext e1 e2
theorem isD_dot {c : UInt8} (h : isD c = true) : c ≠ 46 := by
  rintro rfl
  revert h
  decide
theorem dots_all (l t : List UInt8) (h : l.all isD = true) : dots (l ++ 46 :: t) = l.length := by
  refine dots_eq _ _ (fun j hj => ?_) (by simp) (.inr ?_)
  · rw [List.getElem?_append_left hj, List.getElem?_eq_getElem hj]
    intro e
    exact isD_dot (List.all_eq_true.1 h _ (List.getElem_mem hj)) (Option.some.inj e)
  · rw [List.getElem?_append_right (Nat.le_refl _), Nat.sub_self]
    rfl
theorem dots_end (l : List UInt8) (h : l.all isD = true) : dots l = l.length := by
  refine dots_eq _ _ (fun j hj => ?_) (Nat.le_refl _) (.inl rfl)
  rw [List.getElem?_eq_getElem hj]
  intro e
  exact isD_dot (List.all_eq_true.1 h _ (List.getElem_mem hj)) (Option.some.inj e)
/-- The text of a version. -/
def verT (a b c : Int) : ByteArray := ⟨(Lib.itoa a ++ 46 :: (Lib.itoa b ++ 46 :: Lib.itoa c)).toArray⟩
theorem verT_parts (a b c : Int) (ha : 0 ≤ a ∧ a ≤ 999999) (hb : 0 ≤ b ∧ b ≤ 999999) (hc : 0 ≤ c ∧ c ≤ 999999) :
    verOk (verT a b c) ∧ verN (verT a b c) 0 = a ∧ verN (verT a b c) 1 = b ∧ verN (verT a b c) 2 = c := by
  have da := itoa_nat a ha.1
  have db := itoa_nat b hb.1
  have dc := itoa_nat c hc.1
  have pa := parseP_itoa a ha.1 ha.2
  have pb := parseP_itoa b hb.1 hb.2
  have pc := parseP_itoa c hc.1 hc.2
  have hl : (verT a b c).data.toList = Lib.itoa a ++ 46 :: (Lib.itoa b ++ 46 :: Lib.itoa c) := rfl
  have hz : (verT a b c).size = (Lib.itoa a).length + 1 + ((Lib.itoa b).length + 1 + (Lib.itoa c).length) := by
    show (Lib.itoa a ++ 46 :: (Lib.itoa b ++ 46 :: Lib.itoa c)).toArray.size = _
    simp
    omega
  generalize Lib.itoa a = A at *
  generalize Lib.itoa b = B at *
  generalize Lib.itoa c = C at *
  generalize verT a b c = s at *
  have n0 : nextDot s 0 = A.length := by
    unfold nextDot
    rw [hl, List.drop_zero, dots_all A _ da, Nat.zero_add]
  have s1 : startAt s 1 = A.length + 1 := by show nextDot s 0 + 1 = _; rw [n0]
  have d1 : s.data.toList.drop (A.length + 1) = B ++ 46 :: C := by
    rw [hl, show A ++ 46 :: (B ++ 46 :: C) = (A ++ [46]) ++ (B ++ 46 :: C) by simp]
    exact List.drop_left' (by simp)
  have n1 : nextDot s (startAt s 1) = A.length + 1 + B.length := by
    unfold nextDot
    rw [s1, d1, dots_all B _ db]
  have s2 : startAt s 2 = A.length + 1 + B.length + 1 := by show nextDot s (startAt s 1) + 1 = _; rw [n1]
  have d2 : s.data.toList.drop (A.length + 1 + B.length + 1) = C := by
    rw [hl, show A ++ 46 :: (B ++ 46 :: C) = (A ++ [46] ++ B ++ [46]) ++ C by simp]
    exact List.drop_left' (by simp; omega)
  have n2 : nextDot s (startAt s 2) = A.length + 1 + B.length + 1 + C.length := by
    unfold nextDot
    rw [s2, d2, dots_end C dc]
  have g0 : segAt s 0 = ⟨A.toArray⟩ := by
    unfold segAt
    apply ByteArray.ext
    apply Array.toList_inj.1
    rw [Lib.extract_data]
    show (s.data.toList.drop 0).take (nextDot s 0 - 0) = A
    rw [n0, hl]
    simp
  have g1 : segAt s 1 = ⟨B.toArray⟩ := by
    unfold segAt
    apply ByteArray.ext
    apply Array.toList_inj.1
    rw [Lib.extract_data, n1, s1, d1]
    simp
  have g2 : segAt s 2 = ⟨C.toArray⟩ := by
    unfold segAt
    apply ByteArray.ext
    apply Array.toList_inj.1
    rw [Lib.extract_data, n2, s2, d2]
    simp
  have v0 : verN s 0 = a := by unfold verN; rw [g0, pa]
  have v1 : verN s 1 = b := by unfold verN; rw [g1, pb]
  have v2 : verN s 2 = c := by unfold verN; rw [g2, pc]
  refine ⟨⟨⟨by rw [g0, pa], by rw [v0]; exact ha.1, by rw [v0]; exact ha.2, fun _ => ?_, fun _ => by omega⟩, ⟨by rw [g1, pb], by rw [v1]; exact hb.1, by rw [v1]; exact hb.2, fun _ => ?_, fun _ => by omega⟩, ⟨by rw [g2, pc], by rw [v2]; exact hc.1, by rw [v2]; exact hc.2, fun h => by omega, fun h => ?_⟩⟩, v0, v1, v2⟩
  · show nextDot s 0 < _
    omega
  · omega
  · omega
end Go.Proofs.YtmijfcdmnibnpaaGreatDoor
