/- Contract of text.Quote: the quoted form of a text, or the error. -/
import Derived.Test.YtfdmeinfjfmnlaaDoorValid
import Derived.Test.YtfdmeinfjfmnlaaDoorBuildS
namespace Go.Proofs.YtfdmeinfjfmnlaaDoor
open Go Go.RowKit

/-- The signs of a text with a backslash before each quotation mark and each backslash. -/
def isEsc (c : UInt8) : Bool := c == 34 || c == 92
def escL (l : List UInt8) : List UInt8 := l.flatMap fun c => if isEsc c then [92, c] else [c]
theorem escL_append (a b : List UInt8) : escL (a ++ b) = escL a ++ escL b := by simp [escL]
theorem escL_length (l : List UInt8) : (escL l).length ≤ 2 * l.length := by
  induction l with
  | nil => simp [escL]
  | cons c t ih =>
    have : escL (c :: t) = (if isEsc c then [92, c] else [c]) ++ escL t := rfl
    rw [this]
    split <;> simp <;> omega
theorem escL_plain {l : List UInt8} (h : ∀ c ∈ l, isEsc c = false) : escL l = l := by
  induction l with
  | nil => rfl
  | cons c t ih =>
    have : escL (c :: t) = (if isEsc c then [92, c] else [c]) ++ escL t := rfl
    rw [this, h c (by simp), ih fun d hd => h d (by simp [hd])]
    rfl
def quoteL (l : List UInt8) : List UInt8 := 34 :: (escL l ++ [34])

theorem escB_rune (s : ByteArray) (pos : Nat) (h : pos < s.size) : escB ((Utf8.decode s pos).1 : Nat) = isEsc (s.get! pos) := by
  rw [get_bang s pos h]
  unfold escB isEsc
  rw [Bool.eq_iff_iff]
  simp only [Bool.or_eq_true, beq_iff_eq, ← UInt8.toNat_inj]
  by_cases ha : (s[pos]'h).toNat < 128
  · rw [decode_ascii s pos h ha]
    simp only [UInt8.reduceToNat]
    omega
  · have := (decode_high s pos h (by omega)).1
    simp only [UInt8.reduceToNat]
    omega
theorem take_rune (s : ByteArray) (pos n : Nat) : s.data.toList.take (pos + n) = s.data.toList.take pos ++ (s.data.toList.drop pos).take n := by
  rw [List.take_add]
/-- What a rune adds to the text with its backslashes. -/
theorem esc_rune (s : ByteArray) (pos : Nat) (h : pos < s.size) (hv : ¬ ((Utf8.decode s pos).1 = 65533 ∧ (Utf8.decode s pos).2 = 1)) :
    escL (s.data.toList.take (pos + (Utf8.decode s pos).2)) = escL (s.data.toList.take pos) ++ ((if isEsc (s.get! pos) then [92] else []) ++ Lib.encodeRune ((Utf8.decode s pos).1 : Nat)) := by
  rw [take_rune, escL_append, encode_at s pos h hv]
  congr 1
  have hf := decode_fits s pos h
  have hl : s.data.toList.length = s.size := rfl
  cases he : isEsc (s.get! pos) with
  | true =>
    have ha : (s[pos]'h).toNat < 128 := by
      rw [get_bang s pos h] at he
      unfold isEsc at he
      simp only [Bool.or_eq_true, beq_iff_eq, ← UInt8.toNat_inj, UInt8.reduceToNat] at he
      omega
    have hw : (Utf8.decode s pos).2 = 1 := by rw [decode_ascii s pos h ha]
    rw [hw]
    have e : (s.data.toList.drop pos).take 1 = [s.get! pos] := by
      rw [List.drop_eq_getElem_cons (by omega), get_list s pos h]
      simp [List.getD, h]
    rw [e]
    simp [escL, he]
  | false =>
    rw [escL_plain]
    · rfl
    · intro c hc
      obtain ⟨i, hi, rfl⟩ := List.getElem_of_mem hc
      simp only [List.length_take, List.length_drop] at hi
      have hp : pos + i < s.size := by omega
      have hg : ((s.data.toList.drop pos).take (Utf8.decode s pos).2)[i]'(by simp only [List.length_take, List.length_drop]; omega) = s.get! (pos + i) := by
        rw [get_list s _ hp]
        simp [List.getD, hp]
      rw [hg]
      by_cases h0 : i = 0
      · subst h0; exact he
      · have := decode_tail s pos i (by omega) (by omega)
        unfold isEsc
        rw [Bool.eq_false_iff]
        simp only [ne_eq, Bool.or_eq_true, beq_iff_eq, ← UInt8.toNat_inj, UInt8.reduceToNat]
        omega

theorem ret_str2 {a b : ByteArray} {k : Int} (h : a = b) : Ending.returned (.tuple #[.string a, .int .i64 k]) = .returned (.tuple #[.string b, .int .i64 k]) := by rw [h]

set_option maxHeartbeats 8000000 in
set_option maxRecDepth 100000 in
theorem quote_loop (s : ByteArray) (w : World) (hv : validB s = true) (hT : Tabs w) :
    Calls Tryd.prog 18 #[.string s] w fun e w' => e = .returned (.tuple #[.string ⟨(quoteL s.data.toList).toArray⟩, .int .i64 0]) ∧ Below w.heap.size w w' := by
  have hs : s.size ≤ 200 := by simp only [validB, Bool.and_eq_true, decide_eq_true_eq] at hv; exact hv.1.1
  have hd : Lib.validD s.data.toList = true := by simp only [validB, Bool.and_eq_true] at hv; exact hv.1.2
  replace hd := Lib.hid hd
  go_enter Tryd.func18, Tryd.ntmps18
  go_wp2_with (go_at_call 16; refine (valid_any _ _ (by omega) hT).mono ?_; rintro e w0 ⟨rfl, hb0⟩)
  have hz0 := hb0.size
  have hfresh : Bld w0.heap.size w0.heap.size (Lib.byteCells []) (w0.alloc (.cells #[.pointer none, .slice none 0 0] 41)) := Lib.IsBuilderF.of (Lib.fresh_isBuilder 41 5 w0)
  go_wp2_with (go_at_call 31; refine (writeByte_k w0.heap.size w0.heap.size _ 34 _ hfresh (by simp [Lib.byteCells_length]) (by simp)).mono ?_)
  rintro e w1 ⟨rfl, h1, b1, k1⟩
  have hb1 : Below w.heap.size w w1 := (hb0.alloc hz0 _).trans (b1.mono hz0)
  have hz1 : w0.heap.size + 1 ≤ w1.heap.size := by have := b1.size; simpa using this
  go_wp2
  go_loopw [] (fun wr => ∃ pos : Nat, pos ≤ s.size ∧ Lib.validD (s.data.toList.drop pos) = true ∧ Bld w0.heap.size w0.heap.size (Lib.byteCells (34 :: escL (s.data.toList.take pos))) wr ∧ wr.heap[w1.heap.size]? = some (.stringIter s pos) ∧ Below w.heap.size w wr) (fun wr => s.size - wr.iterPos w1.heap.size)
  case atStart =>
    refine ⟨0, Nat.zero_le _, by simpa using hd.out, (Lib.IsBuilderF.alloc (Or.inr h1) _), ?_, hb1.alloc (by omega) _⟩
    simpa using World.iter_heap w1 s 0
  case round =>
    obtain ⟨pos, hpos, hvd, hI, hit, hbw⟩ := hrel
    have hsz : w1.heap.size < wr.heap.size := (Array.getElem?_eq_some_iff.1 hit).1
    have hmea : wr.iterPos w1.heap.size = pos := by simp only [World.iterPos, hit]
    have hal := escL_length (s.data.toList.take pos)
    have hll : (s.data.toList.take pos).length ≤ pos := List.length_take_le _ _
    by_cases hp : pos < s.size
    · have hnx : ∀ ty, (Instr.next (.pointer (some ⟨w1.heap.size, 0, none⟩)) true ty).run Tryd.prog wr = _ := fun ty => Lib.run_next_any_at wr w1.heap.size s pos ty hit hp
      have hd1 := decode_le s pos
      have hfit := decode_fits s pos hp
      obtain ⟨hno, hnv⟩ := valid_at s pos hp hvd
      have hesc := esc_rune s pos hp hno
      have hI2 := hI.iterAt hit (pos + (Utf8.decode s pos).2)
      have hit2 := Lib.iterAt_heap wr w1.heap.size s pos (pos + (Utf8.decode s pos).2) hit
      have hbw2 := Lib.below_iterAt hbw (k := w1.heap.size) (by omega) s (pos + (Utf8.decode s pos).2)
      have hsz2 : w1.heap.size < (wr.iterAt w1.heap.size s (pos + (Utf8.decode s pos).2)).heap.size := by rw [Lib.iterAt_size]; exact hsz
      have hes := escB_rune s pos hp
      clear hno
      generalize (Utf8.decode s pos).1 = r at hnx hd1 hesc hes
      generalize (Utf8.decode s pos).2 = wd at hnx hfit hit2 hbw2 hnv hesc hI2 hsz2
      generalize hW1 : wr.iterAt w1.heap.size s (pos + wd) = W1 at hit2 hbw2 hnx hI2 hsz2
      replace hW1 := Lib.hid hW1
      replace hit := Lib.hid hit
      replace hmea := Lib.hid hmea
      replace hvd := Lib.hid hvd
      replace hnv := Lib.hid hnv
      replace hesc := Lib.hid hesc
      replace hit2 := Lib.hid hit2
      cases hb : isEsc (s.get! pos) with
      | true =>
        rw [hb] at hes
        have hesc' := hesc.out
        rw [hb, if_pos rfl] at hesc'
        replace hesc' := Lib.hid hesc'
        replace hb := Lib.hid hb
        go_wp2_with (first
          | (go_at_call 32; refine (isEscaped_any _ _).mono ?_; rintro e w' ⟨rfl, rfl⟩)
          | (go_at_call 31; refine (writeByte_k w0.heap.size w0.heap.size _ 92 _ hI2 (by rw [Lib.byteCells_length]; simp; omega) (by omega)).mono ?_; rintro e W2 ⟨rfl, h2, b2, k2⟩))
        have hz2 := b2.size
        go_wp2_with (go_at_call 33; refine (writeRune_k w0.heap.size w0.heap.size _ _ (by omega) (by omega) _ (Or.inr h2) (by rw [List.length_append, Lib.byteCells_length]; simp; omega) (by omega)).mono ?_; rintro e W3 ⟨rfl, h3, b3, k3⟩)
        have hit3 := k3.iter (k2.iter hit2.out (by omega)) (by omega)
        go_wp2
        go_roundw
        case rel =>
          refine ⟨pos + wd, hfit.2, hnv.out, ?_, hit3, (hbw2.trans (b2.mono hz0)).trans (b3.mono hz0)⟩
          rw [hesc'.out]
          have e1 : Lib.byteCells (34 :: (escL (s.data.toList.take pos) ++ ([92] ++ Lib.encodeRune (r : Nat)))) = Lib.byteCells (34 :: escL (s.data.toList.take pos)) ++ [Value.int .u8 92] ++ Lib.runeCells (r : Nat) := by
            rw [← Lib.byteCells_encodeRune, ← List.cons_append, Lib.byteCells_append, Lib.byteCells_append, ← List.append_assoc]
            rfl
          rw [e1]
          exact Or.inr h3
        case measure =>
          rw [hmea.out]
          simp only [World.iterPos, hit3]
          omega
      | false =>
        rw [hb] at hes
        have hesc' := hesc.out
        rw [hb, if_neg (by simp), List.nil_append] at hesc'
        replace hesc' := Lib.hid hesc'
        replace hb := Lib.hid hb
        go_wp2_with (first
          | (go_at_call 32; refine (isEscaped_any _ _).mono ?_; rintro e w' ⟨rfl, rfl⟩)
          | (go_at_call 33; refine (writeRune_k w0.heap.size w0.heap.size _ _ (by omega) (by omega) _ hI2 (by rw [Lib.byteCells_length]; simp; omega) (by omega)).mono ?_; rintro e W3 ⟨rfl, h3, b3, k3⟩))
        have hit3 := k3.iter hit2.out (by omega)
        go_wp2
        go_roundw
        case rel =>
          refine ⟨pos + wd, hfit.2, hnv.out, ?_, hit3, hbw2.trans (b3.mono hz0)⟩
          rw [hesc'.out]
          have e1 : Lib.byteCells (34 :: (escL (s.data.toList.take pos) ++ Lib.encodeRune (r : Nat))) = Lib.byteCells (34 :: escL (s.data.toList.take pos)) ++ Lib.runeCells (r : Nat) := by
            rw [← Lib.byteCells_encodeRune, ← List.cons_append, Lib.byteCells_append]
          rw [e1]
          exact Or.inr h3
        case measure =>
          rw [hmea.out]
          simp only [World.iterPos, hit3]
          omega
    · obtain rfl : pos = s.size := by omega
      have hnx : ∀ ty, (Instr.next (.pointer (some ⟨w1.heap.size, 0, none⟩)) true ty).run Tryd.prog wr = _ := fun ty => Lib.run_next_end_at wr w1.heap.size s s.size ty hit hp
      replace hit := Lib.hid hit
      replace hmea := Lib.hid hmea
      replace hvd := Lib.hid hvd
      have hfull : s.data.toList.take s.size = s.data.toList := List.take_of_length_le (Nat.le_refl _)
      rw [hfull] at hI hal
      have hln : s.data.toList.length = s.size := rfl
      replace hfull := Lib.hid hfull
      go_wp2_with (first
        | (go_at_call 31; refine (writeByte_k w0.heap.size w0.heap.size _ 34 _ hI (by rw [Lib.byteCells_length]; simp; omega) (by omega)).mono ?_; rintro e W2 ⟨rfl, h2, b2, k2⟩))
      have hz2 := b2.size
      have e2 : Lib.byteCells (34 :: escL s.data.toList) ++ [Value.int .u8 34] = Lib.byteCells (quoteL s.data.toList) := by
        unfold quoteL
        rw [← List.cons_append, Lib.byteCells_append]
        rfl
      rw [e2] at h2
      replace e2 := Lib.hid e2
      go_wp2_with (go_at_call 34; refine (string_k w0.heap.size w0.heap.size _ _ (Or.inr h2) (by omega)).mono ?_; rintro e W3 ⟨rfl, h3, b3, k3⟩)
      go_ret2
      exact ⟨rfl, (hbw.trans (b2.mono hz0)).trans (b3.mono hz0)⟩

theorem quote_bad (s : ByteArray) (w : World) (hm : s.size ≤ 9223372036854775807) (hv : validB s = false) (hT : Tabs w) :
    Calls Tryd.prog 18 #[.string s] w fun e w' => e = .returned (.tuple #[.string ⟨#[]⟩, .int .i64 2]) ∧ Below w.heap.size w w' := by
  go_enter Tryd.func18, Tryd.ntmps18
  go_wp2_with (go_at_call 16; refine (valid_any _ _ hm hT).mono ?_; rintro e w0 ⟨rfl, hb0⟩)
  go_ret2
  exact ⟨rfl, hb0⟩
end Go.Proofs.YtfdmeinfjfmnlaaDoor
