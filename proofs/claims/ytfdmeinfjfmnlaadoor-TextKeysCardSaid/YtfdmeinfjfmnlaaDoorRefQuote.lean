/- Contract of the document's answer for the quoted form of a text. -/
import Derived.Test.YtfdmeinfjfmnlaaDoorQuote
import Derived.Test.YtfdmeinfjfmnlaaDoorRow
namespace Go.Proofs.YtfdmeinfjfmnlaaDoor
open Go Go.RowKit

theorem escL_snoc (l : List UInt8) (c : UInt8) : escL (l ++ [c]) = escL l ++ (if isEsc c then [92, c] else [c]) := by
  rw [escL_append]
  simp [escL]
theorem take_snoc (s : ByteArray) (k : Nat) (h : k < s.size) : s.data.toList.take (k + 1) = s.data.toList.take k ++ [s[k]] := by
  rw [List.take_succ_eq_append_getElem (by simpa using h)]; rfl

theorem take_all (s : ByteArray) : s.data.toList.take s.size = s.data.toList := List.take_of_length_le (Nat.le_refl _)

set_option maxHeartbeats 8000000 in
set_option maxRecDepth 100000 in
theorem refQuote_loop (s : ByteArray) (w : World) (hv : validB s = true) (hT : Tabs w) :
    Calls Tryd.prog 19 #[.string s] w fun e w' => e = .returned (.tuple #[.string ⟨(quoteL s.data.toList).toArray⟩, .int .i64 0]) ∧ Below w.heap.size w w' := by
  have hs : s.size ≤ 200 := by simp only [validB, Bool.and_eq_true, decide_eq_true_eq] at hv; exact hv.1.1
  go_enter Tryd.func19, Tryd.ntmps19
  go_wp2_with (go_at_call 17; refine (refValid_any _ _ (by omega) hT).mono ?_; rintro e w0 ⟨rfl, hb0⟩)
  have hz0 := hb0.size
  go_loopw [4, 5] (fun v i wr => ∃ k : Nat, k ≤ s.size ∧ i = .int .i64 k ∧ Own w0.heap.size v (34 :: escL (s.data.toList.take k)) wr ∧ Below w.heap.size w wr ∧ w0.heap.size ≤ wr.heap.size) (fun _ i _ => s.size - (intOf i).toNat)
  case atStart => exact ⟨0, Nat.zero_le _, rfl, own_made w0.heap.size [34] w0 (Nat.le_refl _) (by simp), hb0.alloc hz0 _, by simp⟩
  case round =>
    obtain ⟨k, hk, rfl, hown, hbw, hsz⟩ := hrel
    have hal := escL_length (s.data.toList.take k)
    have hll : (s.data.toList.take k).length ≤ k := List.length_take_le _ _
    by_cases hlt : k < s.size
    · have hsn := escL_snoc (s.data.toList.take k) s[k]
      rw [← take_snoc s k hlt] at hsn
      cases he : isEsc s[k] with
      | true =>
        rw [he, if_pos rfl] at hsn
        replace hsn := Lib.hid hsn
        have hc : s[k] = 34 ∨ s[k] = 92 := by simpa [isEsc] using he
        replace he := Lib.hid he
        have hal2 : (34 :: escL (s.data.toList.take k)).length + 2 ≤ 1000 := by simp; omega
        rcases hc with hc | hc
        · have hc1 : ((s[k].toNat : Int) == 34) = true := by rw [hc]; rfl
          replace hc := Lib.hid hc
          go_wp2_with (at_builtin; refine wpList_own1 rfl _ _ rfl 92 hown rfl rfl ?c1 hsz ?_)
          case c1 => omega
          intro v' w2 hown' hb2
          have hz2 := hb2.size
          go_wp2_with (at_builtin; refine wpList_own1 rfl _ _ rfl s[k] hown' rfl rfl ?c2 (by omega) ?_)
          case c2 => simp only [List.length_append, List.length_cons, List.length_nil] at hal2 ⊢; omega
          intro v'' w3 hown'' hb3
          have hz3 := hb3.size
          go_wp2
          go_roundw
          case rel => exact ⟨k + 1, by omega, by go_num, by rw [hsn.out]; simpa using hown'', (hbw.trans (hb2.mono hz0)).trans (hb3.mono hz0), by omega⟩
          case measure => simp [intOf]; omega
        · have hc1 : ((s[k].toNat : Int) == 34) = false := by rw [hc]; rfl
          have hc2 : ((s[k].toNat : Int) == 92) = true := by rw [hc]; rfl
          replace hc := Lib.hid hc
          go_wp2_with (at_builtin; refine wpList_own1 rfl _ _ rfl 92 hown rfl rfl ?c1 hsz ?_)
          case c1 => omega
          intro v' w2 hown' hb2
          have hz2 := hb2.size
          go_wp2_with (at_builtin; refine wpList_own1 rfl _ _ rfl s[k] hown' rfl rfl ?c2 (by omega) ?_)
          case c2 => simp only [List.length_append, List.length_cons, List.length_nil] at hal2 ⊢; omega
          intro v'' w3 hown'' hb3
          have hz3 := hb3.size
          go_wp2
          go_roundw
          case rel => exact ⟨k + 1, by omega, by go_num, by rw [hsn.out]; simpa using hown'', (hbw.trans (hb2.mono hz0)).trans (hb3.mono hz0), by omega⟩
          case measure => simp [intOf]; omega
      | false =>
        rw [he, if_neg (by simp)] at hsn
        replace hsn := Lib.hid hsn
        have hc1 : ((s[k].toNat : Int) == 34) = false := by
          have : s[k] ≠ 34 := by rintro e; rw [e] at he; simp [isEsc] at he
          rw [beq_eq_false_iff_ne]
          intro e
          exact this (UInt8.toNat_inj.1 (by simp; omega))
        have hc2 : ((s[k].toNat : Int) == 92) = false := by
          have : s[k] ≠ 92 := by rintro e; rw [e] at he; simp [isEsc] at he
          rw [beq_eq_false_iff_ne]
          intro e
          exact this (UInt8.toNat_inj.1 (by simp; omega))
        replace he := Lib.hid he
        go_wp2_with (at_builtin; refine wpList_own1 rfl _ _ rfl s[k] hown rfl rfl ?c1 hsz ?_)
        case c1 => simp; omega
        intro v' w2 hown' hb2
        have hz2 := hb2.size
        go_wp2
        go_roundw
        case rel => exact ⟨k + 1, by omega, by go_num, by rw [hsn.out]; exact hown', hbw.trans (hb2.mono hz0), by omega⟩
        case measure => simp [intOf]; omega
    · obtain rfl : k = s.size := by omega
      rw [take_all s] at hown hal
      have hln : s.data.toList.length = s.size := rfl
      go_wp2_with (at_builtin; refine wpList_own1 rfl _ _ rfl 34 hown rfl rfl ?c1 hsz ?_)
      case c1 => simp; omega
      intro v' w2 hown' hb2
      have hcv := Own.string hown'
      replace hown' := Lib.hid hown'
      go_wp2
      go_ret2
      exact ⟨rfl, hbw.trans (hb2.mono hz0)⟩

theorem refQuote_bad (s : ByteArray) (w : World) (hm : s.size ≤ 9223372036854775807) (hv : validB s = false) (hT : Tabs w) :
    Calls Tryd.prog 19 #[.string s] w fun e w' => e = .returned (.tuple #[.string ⟨#[]⟩, .int .i64 2]) ∧ Below w.heap.size w w' := by
  go_enter Tryd.func19, Tryd.ntmps19
  go_wp2_with (go_at_call 17; refine (refValid_any _ _ hm hT).mono ?_; rintro e w0 ⟨rfl, hb0⟩)
  go_ret2
  exact ⟨rfl, hb0⟩
end Go.Proofs.YtfdmeinfjfmnlaaDoor
