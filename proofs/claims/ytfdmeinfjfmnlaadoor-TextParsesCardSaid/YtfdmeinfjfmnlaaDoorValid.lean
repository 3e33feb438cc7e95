/- Contracts of text.Valid and of the document's answer for it: whether a text is valid. -/
import Derived.Test.YtfdmeinfjfmnlaaDoorKeys
import Derived.Test.YtfdmeinfjfmnlaaDoorUtf
import Derived.Test.YtfdmeinfjfmnlaaDoorShelfV
namespace Go.Proofs.YtfdmeinfjfmnlaaDoor
open Go Go.RowKit

/-- The two tables of package unicode/utf8 hold what its text lays. -/
def Tabs (w : World) : Prop := Lib.Utf8Tabs 1 2 w
theorem validString_any (s : ByteArray) (w : World) (hs : s.size ≤ 9223372036854775807) (hT : Tabs w) :
    Calls Tryd.prog 30 #[.string s] w fun e w' => e = .returned (.bool (Lib.validD s.data.toList)) ∧ Below w.heap.size w w' :=
  Any.utf8_ValidString Tryd.laysValid s w hs hT

def okC (c : Nat) : Prop := 32 ≤ c ∧ c ≠ 127
instance (c : Nat) : Decidable (okC c) := by unfold okC; infer_instance
/-- No sign before place k is a control sign. -/
def plainTo (s : ByteArray) (k : Nat) : Prop := ∀ i, i < k → okC (s.get! i).toNat
instance (s : ByteArray) (k : Nat) : Decidable (plainTo s k) := by unfold plainTo; infer_instance
theorem plainTo_succ {s : ByteArray} {k : Nat} (h : plainTo s k) (hk : okC (s.get! k).toNat) : plainTo s (k + 1) := fun i hi => by
  rcases Nat.lt_succ_iff_lt_or_eq.1 hi with h1 | rfl
  · exact h i h1
  · exact hk
theorem plainTo_rune {s : ByteArray} {k : Nat} (h : plainTo s k) (hk : okC (s.get! k).toNat) : plainTo s (k + (Utf8.decode s k).2) := fun i hi => by
  by_cases h1 : i < k
  · exact h i h1
  by_cases h2 : i = k
  · subst h2; exact hk
  · have := decode_tail s k (i - k) (by omega) (by omega)
    rw [show k + (i - k) = i by omega] at this
    unfold okC
    omega
theorem okC_rune (s : ByteArray) (pos : Nat) (h : pos < s.size) : okC (s.get! pos).toNat ↔ okC (Utf8.decode s pos).1 := by
  rw [get_bang s pos h]
  by_cases ha : (s[pos]'h).toNat < 128
  · rw [decode_ascii s pos h ha]
  · have := (decode_high s pos h (by omega)).1
    unfold okC
    constructor <;> (intro _; omega)

/-- Whether a text is valid. -/
def validB (s : ByteArray) : Bool := decide (s.size ≤ 200) && Lib.validD s.data.toList && decide (plainTo s s.size)
theorem validB_long {s : ByteArray} (h : ¬ s.size ≤ 200) : validB s = false := by simp [validB, h]
theorem validB_bad {s : ByteArray} (h : Lib.validD s.data.toList = false) : validB s = false := by simp [validB, h]
theorem validB_ctl {s : ByteArray} {k : Nat} (hk : k < s.size) (h : ¬ okC (s.get! k).toNat) : validB s = false := by
  have : ¬ plainTo s s.size := fun h' => h (h' k hk)
  simp [validB, this]
theorem validB_yes {s : ByteArray} (h : s.size ≤ 200) (h1 : Lib.validD s.data.toList = true) (h2 : plainTo s s.size) : validB s = true := by simp [validB, h, h1, h2]

set_option maxHeartbeats 2000000 in
theorem valid_loop (s : ByteArray) (w : World) (hs : s.size ≤ 200) (hv : Lib.validD s.data.toList = true) (hT : Tabs w) :
    Calls Tryd.prog 16 #[.string s] w fun e w' => e = .returned (.bool (validB s)) ∧ Below w.heap.size w w' := by
  go_enter Tryd.func16, Tryd.ntmps16
  go_wp2_with (go_at_call 30; refine (validString_any _ _ (by omega) hT).mono ?_; rintro e w0 ⟨rfl, hb0⟩)
  have hz0 := hb0.size
  go_loopw [] (fun wr => ∃ pos : Nat, pos ≤ s.size ∧ plainTo s pos ∧ wr.heap[w0.heap.size]? = some (.stringIter s pos) ∧ Below w.heap.size w wr) (fun wr => s.size - wr.iterPos w0.heap.size)
  case atStart =>
    refine ⟨0, Nat.zero_le _, fun i hi => by omega, ?_, hb0.alloc hz0 _⟩
    simpa using World.iter_heap w0 s 0
  case round =>
    obtain ⟨pos, hpos, hto, hit, hbw⟩ := hrel
    have hsz : w0.heap.size < wr.heap.size := (Array.getElem?_eq_some_iff.1 hit).1
    have hmea : wr.iterPos w0.heap.size = pos := by simp only [World.iterPos, hit]
    by_cases hp : pos < s.size
    · have hnx : ∀ ty, (Instr.next (.pointer (some ⟨w0.heap.size, 0, none⟩)) true ty).run Tryd.prog wr = _ := fun ty => Lib.run_next_any_at wr w0.heap.size s pos ty hit hp
      have hd1 := decode_le s pos
      have hfit := decode_fits s pos hp
      have hit2 := Lib.iterAt_heap wr w0.heap.size s pos (pos + (Utf8.decode s pos).2) hit
      have hbw2 := Lib.below_iterAt hbw (k := w0.heap.size) hz0 s (pos + (Utf8.decode s pos).2)
      by_cases hok : okC (s.get! pos).toNat
      · have hnext := plainTo_rune hto hok
        rw [okC_rune s pos hp] at hok
        have hmea2 : (wr.iterAt w0.heap.size s (pos + (Utf8.decode s pos).2)).iterPos w0.heap.size = pos + (Utf8.decode s pos).2 := by simp only [World.iterPos, hit2]
        generalize (Utf8.decode s pos).1 = r at hok hnx hd1
        generalize (Utf8.decode s pos).2 = wd at hnx hfit hit2 hbw2 hnext hmea2
        generalize hW1 : wr.iterAt w0.heap.size s (pos + wd) = W1 at hit2 hbw2 hnx hmea2
        replace hW1 := Lib.hid hW1
        replace hit2 := Lib.hid hit2
        replace hit := Lib.hid hit
        replace hmea := Lib.hid hmea
        replace hmea2 := Lib.hid hmea2
        replace hnext := Lib.hid hnext
        replace hto := Lib.hid hto
        replace hv := Lib.hid hv
        unfold okC at hok
        obtain ⟨hok1, hok2⟩ := hok
        have hno : ((r : Int) == 127) = false := by simp; omega
        go_wp2
        go_roundw
        case rel => exact ⟨pos + wd, hfit.2, hnext.out, hit2.out, hbw2⟩
        case measure => rw [hmea.out, hmea2.out]; omega
      · have hnot : validB s = false := validB_ctl hp hok
        rw [okC_rune s pos hp] at hok
        generalize (Utf8.decode s pos).1 = r at hok hnx hd1
        generalize (Utf8.decode s pos).2 = wd at hnx hfit hit2 hbw2
        generalize hW1 : wr.iterAt w0.heap.size s (pos + wd) = W1 at hit2 hbw2 hnx
        replace hW1 := Lib.hid hW1
        replace hit2 := Lib.hid hit2
        replace hit := Lib.hid hit
        replace hmea := Lib.hid hmea
        replace hnot := Lib.hid hnot
        replace hto := Lib.hid hto
        replace hv := Lib.hid hv
        unfold okC at hok
        by_cases h32 : r < 32
        · replace hok := Lib.hid hok
          go_wp2
          go_ret
          exact ⟨ret_bool hnot.out.symm, hbw2⟩
        · obtain rfl : r = 127 := by omega
          clear hok
          go_wp2
          go_ret
          exact ⟨ret_bool hnot.out.symm, hbw2⟩
    · obtain rfl : pos = s.size := by omega
      have hnx : ∀ ty, (Instr.next (.pointer (some ⟨w0.heap.size, 0, none⟩)) true ty).run Tryd.prog wr = _ := fun ty => Lib.run_next_end_at wr w0.heap.size s s.size ty hit hp
      have hk : validB s = true := validB_yes hs hv hto
      replace hk := Lib.hid hk
      replace hit := Lib.hid hit
      replace hto := Lib.hid hto
      replace hv := Lib.hid hv
      replace hmea := Lib.hid hmea
      go_wp2
      go_ret
      exact ⟨ret_bool hk.out.symm, hbw⟩

theorem valid_any (s : ByteArray) (w : World) (hm : s.size ≤ 9223372036854775807) (hT : Tabs w) :
    Calls Tryd.prog 16 #[.string s] w fun e w' => e = .returned (.bool (validB s)) ∧ Below w.heap.size w w' := by
  by_cases h1 : s.size ≤ 200
  · cases hv : Lib.validD s.data.toList with
    | true => exact valid_loop s w h1 hv hT
    | false =>
      have hk := Lib.hid (validB_bad hv)
      go_enter Tryd.func16, Tryd.ntmps16
      go_wp2_with (go_at_call 30; refine (validString_any _ _ hm hT).mono ?_; rintro e w0 ⟨rfl, hb0⟩)
      go_ret
      exact ⟨ret_bool hk.out.symm, hb0⟩
  · have hk := Lib.hid (validB_long h1)
    have h3 : 200 < s.size := by omega
    clear h1
    go_enter Tryd.func16, Tryd.ntmps16
    go_wp2
    go_ret
    exact ⟨ret_bool hk.out.symm, Below.refl _ _⟩

set_option maxHeartbeats 2000000 in
theorem refValid_loop (s : ByteArray) (w : World) (hs : s.size ≤ 200) (hv : Lib.validD s.data.toList = true) (hT : Tabs w) :
    Calls Tryd.prog 17 #[.string s] w fun e w' => e = .returned (.bool (validB s)) ∧ Below w.heap.size w w' := by
  go_enter Tryd.func17, Tryd.ntmps17
  go_wp2_with (go_at_call 30; refine (validString_any _ _ (by omega) hT).mono ?_; rintro e w0 ⟨rfl, hb0⟩)
  go_loop [3] (fun i => ∃ k : Nat, k ≤ s.size ∧ i = .int .i64 k ∧ plainTo s k) (fun i => s.size - (intOf i).toNat)
  case atStart => exact ⟨0, Nat.zero_le _, rfl, fun i hi => by omega⟩
  case round =>
    obtain ⟨k, hk, rfl, hto⟩ := hrel
    by_cases hlt : k < s.size
    · have hg := get_bang s k hlt
      by_cases hok : okC (s.get! k).toNat
      · have hnext := Lib.hid (plainTo_succ hto hok)
        replace hto := Lib.hid hto
        replace hv := Lib.hid hv
        rw [hg] at hok
        unfold okC at hok
        obtain ⟨hok1, hok2⟩ := hok
        have hno : ((s[k].toNat : Int) == 127) = false := by simp; omega
        have hlo : (32 : Int) ≤ (s[k].toNat : Int) := by omega
        replace hg := Lib.hid hg
        clear hok1 hok2
        go_wp2
        go_round
        case rel => exact ⟨k + 1, by omega, by go_num, hnext.out⟩
        case measure => simp [intOf]; omega
      · have hnot := Lib.hid (validB_ctl hlt hok)
        replace hto := Lib.hid hto
        replace hv := Lib.hid hv
        rw [hg] at hok
        unfold okC at hok
        by_cases h32 : (s[k].toNat : Int) < 32
        · replace hg := Lib.hid hg
          replace hok := Lib.hid hok
          go_wp2
          go_ret
          exact ⟨ret_bool hnot.out.symm, hb0⟩
        · have h127 : ((s[k].toNat : Int) == 127) = true := by simp; omega
          replace hg := Lib.hid hg
          clear hok
          go_wp2
          go_ret
          exact ⟨ret_bool hnot.out.symm, hb0⟩
    · obtain rfl : k = s.size := by omega
      have hk := Lib.hid (validB_yes hs hv hto)
      replace hto := Lib.hid hto
      replace hv := Lib.hid hv
      go_wp2
      go_ret
      exact ⟨ret_bool hk.out.symm, hb0⟩

theorem refValid_any (s : ByteArray) (w : World) (hm : s.size ≤ 9223372036854775807) (hT : Tabs w) :
    Calls Tryd.prog 17 #[.string s] w fun e w' => e = .returned (.bool (validB s)) ∧ Below w.heap.size w w' := by
  by_cases h1 : s.size ≤ 200
  · cases hv : Lib.validD s.data.toList with
    | true => exact refValid_loop s w h1 hv hT
    | false =>
      have hk := Lib.hid (validB_bad hv)
      go_enter Tryd.func17, Tryd.ntmps17
      go_wp2_with (go_at_call 30; refine (validString_any _ _ hm hT).mono ?_; rintro e w0 ⟨rfl, hb0⟩)
      go_ret
      exact ⟨ret_bool hk.out.symm, hb0⟩
  · have hk := Lib.hid (validB_long h1)
    have h3 : 200 < s.size := by omega
    clear h1
    go_enter Tryd.func17, Tryd.ntmps17
    go_wp2
    go_ret
    exact ⟨ret_bool hk.out.symm, Below.refl _ _⟩
end Go.Proofs.YtfdmeinfjfmnlaaDoor
