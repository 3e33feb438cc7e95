/- Contracts of text.Key and of the document's answer for it: whether a text is a key. -/
import Derived.Test.YtfdmeinfjfmnlaaDoorKey
import Derived.Below
import Derived.Lib.OthersKept
import Derived.Lib.DecodeN
namespace Go.Proofs.YtfdmeinfjfmnlaaDoor
open Go Go.RowKit

theorem Res.below {W : List ByteArray} {w w' : World} (h : Res W w) (hb : Below w.heap.size w w') (hg : 0 < w.heap.size) : Res W w' := by
  obtain ⟨b, off, h1, h2, h3⟩ := h.ex
  refine ⟨b, off, Nat.lt_of_lt_of_le h1 hb.size, ?_, fun i hi => ?_⟩
  · rw [hb.cell (p := ⟨_, 0, none⟩) hg]; exact h2
  · rw [hb.cell (p := ⟨b, off + i, none⟩) h1]; exact h3 i hi
theorem Res.glob {W : List ByteArray} {w : World} (h : Res W w) : 0 < w.heap.size := by
  obtain ⟨b, off, h1, h2, h3⟩ := h.ex
  by_cases hlt : 0 < w.heap.size
  · exact hlt
  · exfalso
    simp [World.cell?, Array.getElem?_eq_none (Nat.le_of_not_lt hlt)] at h2

theorem okAt_rune (s : ByteArray) (pos : Nat) (h : pos < s.size) : okAt (s.get! pos).toNat pos ↔ okAt (Utf8.decode s pos).1 pos := by
  rw [get_bang s pos h]
  by_cases ha : (s[pos]'h).toNat < 128
  · rw [decode_ascii s pos h ha]
  · have := (decode_high s pos h (by omega)).1
    unfold okAt
    constructor <;> (intro h'; exfalso; omega)
theorem okAt_width (s : ByteArray) (pos : Nat) (h : pos < s.size) (hk : okAt (s.get! pos).toNat pos) : (Utf8.decode s pos).2 = 1 := by
  rw [get_bang s pos h] at hk
  rw [decode_ascii s pos h (by unfold okAt at hk; omega)]

/-- Whether a text is a key, given the reserved words. -/
def keyB (W : List ByteArray) (s : ByteArray) : Bool := decide (wordP s) && decide (s.size ≤ 32) && !isIn W s
theorem keyB_word {W : List ByteArray} {s : ByteArray} (h : ¬ wordP s) : keyB W s = false := by simp [keyB, h]
theorem keyB_long {W : List ByteArray} {s : ByteArray} (h : ¬ s.size ≤ 32) : keyB W s = false := by simp [keyB, h]
theorem keyB_rest {W : List ByteArray} {s : ByteArray} (h : wordP s) (h' : s.size ≤ 32) : keyB W s = !isIn W s := by simp [keyB, h, h']

set_option maxHeartbeats 2000000 in
theorem key_loop (W : List ByteArray) (hW : W.length ≤ 1000) (s : ByteArray) (w : World) (hs1 : 1 ≤ s.size) (hs : s.size ≤ 32) (hR : Res W w) :
    Calls Tryd.prog 11 #[.string s] w fun e w' => e = .returned (.bool (keyB W s)) ∧ Below w.heap.size w w' := by
  go_enter Tryd.func11, Tryd.ntmps11
  go_wp2
  go_loopw [] (fun wr => ∃ pos : Nat, pos ≤ s.size ∧ wordTo s pos ∧ wr.heap[w.heap.size]? = some (.stringIter s pos) ∧ Below w.heap.size w wr) (fun wr => s.size - wr.iterPos w.heap.size)
  case atStart =>
    refine ⟨0, Nat.zero_le _, fun i hi => by omega, ?_, (Below.refl _ w).alloc (Nat.le_refl _) _⟩
    simpa using World.iter_heap w s 0
  case round =>
    obtain ⟨pos, hpos, hto, hit, hbw⟩ := hrel
    have hsz : w.heap.size < wr.heap.size := (Array.getElem?_eq_some_iff.1 hit).1
    by_cases hp : pos < s.size
    · have hnx : ∀ ty, (Instr.next (.pointer (some ⟨w.heap.size, 0, none⟩)) true ty).run Tryd.prog wr = _ := fun ty => Lib.run_next_any_at wr w.heap.size s pos ty hit hp
      have hd1 := decode_le s pos
      have hit2 := Lib.iterAt_heap wr w.heap.size s pos (pos + (Utf8.decode s pos).2) hit
      have hbw2 := Lib.below_iterAt hbw (k := w.heap.size) (by omega) s (pos + (Utf8.decode s pos).2)
      have hmea : wr.iterPos w.heap.size = pos := by simp only [World.iterPos, hit]
      by_cases hok : okAt (s.get! pos).toNat pos
      · have hnext := wordTo_succ hto hok
        have hwd := okAt_width s pos hp hok
        rw [okAt_rune s pos hp] at hok
        rw [hwd] at hit2 hbw2 hnx
        have hmea2 : (wr.iterAt w.heap.size s (pos + 1)).iterPos w.heap.size = pos + 1 := by simp only [World.iterPos, hit2]
        clear hwd
        generalize (Utf8.decode s pos).1 = r at hok hnx hd1
        generalize hW1 : wr.iterAt w.heap.size s (pos + 1) = W1 at hit2 hbw2 hnx hmea2
        replace hW1 := Lib.hid hW1
        replace hit2 := Lib.hid hit2
        replace hit := Lib.hid hit
        replace hmea := Lib.hid hmea
        replace hmea2 := Lib.hid hmea2
        replace hnext := Lib.hid hnext
        replace hto := Lib.hid hto
        unfold okAt at hok
        replace hok := Lib.hid hok
        go_wp2_with (first
          | (go_at_call 26; refine (isLetter_any _ _).mono ?_; rintro e w' ⟨rfl, rfl⟩)
          | (go_at_call 27; refine (isDigit_any _ _).mono ?_; rintro e w' ⟨rfl, rfl⟩))
        all_goals first
          | (go_roundw
             case rel => exact ⟨pos + 1, by omega, hnext.out, hit2.out, hbw2⟩
             case measure => rw [hmea.out, hmea2.out]; omega)
          | (exfalso
             have h' := hok.out
             simp_all [letB, digB]
             try omega)
      · have hnot : keyB W s = false := keyB_word (not_wordP hp hok)
        rw [okAt_rune s pos hp] at hok
        generalize (Utf8.decode s pos).1 = r at hok hnx hd1
        generalize hW1 : wr.iterAt w.heap.size s _ = W1 at hit2 hbw2 hnx
        replace hW1 := Lib.hid hW1
        replace hit2 := Lib.hid hit2
        replace hit := Lib.hid hit
        replace hmea := Lib.hid hmea
        replace hnot := Lib.hid hnot
        replace hto := Lib.hid hto
        unfold okAt at hok
        replace hok := Lib.hid hok
        go_wp2_with (first
          | (go_at_call 26; refine (isLetter_any _ _).mono ?_; rintro e w' ⟨rfl, rfl⟩)
          | (go_at_call 27; refine (isDigit_any _ _).mono ?_; rintro e w' ⟨rfl, rfl⟩))
        all_goals first
          | (go_ret
             exact ⟨ret_bool hnot.out.symm, hbw2⟩)
          | (exfalso
             have h' := hok.out
             simp_all [letB, digB]
             try omega)
    · obtain rfl : pos = s.size := by omega
      have hnx : ∀ ty, (Instr.next (.pointer (some ⟨w.heap.size, 0, none⟩)) true ty).run Tryd.prog wr = _ := fun ty => Lib.run_next_end_at wr w.heap.size s s.size ty hit hp
      have hk : keyB W s = !isIn W s := keyB_rest ⟨hs1, hto⟩ hs
      have hR' := hR.below hbw hR.glob
      replace hk := Lib.hid hk
      replace hit := Lib.hid hit
      replace hto := Lib.hid hto
      go_wp2_with (go_at_call 28; refine (isReserved_any W hW _ _ hR').mono ?_; rintro e w' ⟨rfl, rfl⟩)
      go_ret
      exact ⟨ret_bool hk.out.symm, hbw⟩

theorem key_any (W : List ByteArray) (hW : W.length ≤ 1000) (s : ByteArray) (w : World) (hm : s.size ≤ 9223372036854775807) (hR : Res W w) :
    Calls Tryd.prog 11 #[.string s] w fun e w' => e = .returned (.bool (keyB W s)) ∧ Below w.heap.size w w' := by
  by_cases h1 : 1 ≤ s.size ∧ s.size ≤ 32
  · exact key_loop W hW s w h1.1 h1.2 hR
  · have hk : keyB W s = false := by
      by_cases h2 : s.size ≤ 32
      · exact keyB_word fun h => h1 ⟨h.1, h2⟩
      · exact keyB_long h2
    replace hk := Lib.hid hk
    by_cases h2 : s.size < 1
    · go_enter Tryd.func11, Tryd.ntmps11
      go_wp2
      go_ret
      exact ⟨ret_bool hk.out.symm, Below.refl _ _⟩
    · have h3 : 32 < s.size := by omega
      clear h1
      go_enter Tryd.func11, Tryd.ntmps11
      go_wp2
      go_ret
      exact ⟨ret_bool hk.out.symm, Below.refl _ _⟩
end Go.Proofs.YtfdmeinfjfmnlaaDoor
