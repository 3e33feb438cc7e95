/- Contracts: isLetter_any. Contracts: isDigit_any. Contracts: isReserved_any. Contracts: key_any, key_loop. Contracts: refWord_any. Contracts: refReserved_any. Contracts: refKey_any, refKey_loop. -/
import Derived.Test.YtcbnefeedoabeaaGreatDoorProg
import Derived.Test.YtcbnefeedoabeaaGreatDoorPa
/- Contracts: isLetter_any. -/
namespace Go.Proofs.YtcbnefeedoabeaaGreatDoor
open Go Go.RowKit

theorem isLetter_any (r : Int) (w : World) : Calls Tryz.prog 129 #[.int .i32 r] w fun e w' => e = .returned (.bool (letB r)) ∧ w = w' := by
  go_enter Tryz.func129, Tryz.ntmps129
  go_wp2
  all_goals
    go_ret
    refine ⟨?_, rfl⟩
    unfold letB
    simp
    try omega
end Go.Proofs.YtcbnefeedoabeaaGreatDoor
/- Contracts: isDigit_any. -/
namespace Go.Proofs.YtcbnefeedoabeaaGreatDoor
open Go Go.RowKit

theorem isDigit_any (r : Int) (w : World) : Calls Tryz.prog 130 #[.int .i32 r] w fun e w' => e = .returned (.bool (digB r)) ∧ w = w' := by
  go_enter Tryz.func130, Tryz.ntmps130
  go_wp2
  all_goals
    go_ret
    refine ⟨?_, rfl⟩
    unfold digB
    simp
    try omega
end Go.Proofs.YtcbnefeedoabeaaGreatDoor
/- Contracts: isReserved_any. -/
namespace Go.Proofs.YtcbnefeedoabeaaGreatDoor
open Go Go.RowKit

/-- What the variable of the reserved words holds: a slice over a row of strings. -/
structure Res (W : List ByteArray) (w : World) : Prop where
  ex : ∃ b off, b < w.heap.size ∧ w.cell? ⟨6, 0, none⟩ = some (.slice (some ⟨b, off, none⟩) W.length W.length) ∧ ∀ (i : Nat) (h : i < W.length), w.cell? ⟨b, off + i, none⟩ = some (.string W[i])

set_option maxHeartbeats 1000000 in
theorem isReserved_any (W : List ByteArray) (hW : W.length ≤ 1000) (s : ByteArray) (w : World) (hR : Res W w) :
    Calls Tryz.prog 131 #[.string s] w fun e w' => e = .returned (.bool (isIn W s)) ∧ w = w' := by
  obtain ⟨b, off, hb, hg, hcell⟩ := hR.ex
  go_enter Tryz.func131, Tryz.ntmps131
  go_wp2
  go_loop [7] (fun i => ∃ k : Nat, k ≤ W.length ∧ i = .int .i64 k ∧ s ∉ W.take k) (fun i => W.length - (intOf i).toNat)
  case atStart => exact ⟨0, Nat.zero_le _, rfl, by simp⟩
  case round =>
    obtain ⟨k, hk, rfl, hno⟩ := hrel
    by_cases hlt : k < W.length
    · have hc := hcell k hlt
      by_cases hs : s = W[k]
      · have hq : (s.toList == W[k].toList) = true := bytes_yes hs
        have hm : s ∈ W := by rw [hs]; exact List.getElem_mem hlt
        replace hs := Lib.hid hs
        go_wp2
        go_ret
        exact ⟨ret_bool (isIn_yes hm).symm, rfl⟩
      · have hq : (s.toList == W[k].toList) = false := bytes_no hs
        go_wp2
        go_round
        case rel => exact ⟨k + 1, by omega, by go_num, take_mem_succ W s k hlt hno hs⟩
        case measure => simp [intOf]; omega
    · go_wp2
      go_ret
      rw [List.take_of_length_le (by omega)] at hno
      exact ⟨ret_bool (isIn_no hno).symm, rfl⟩

theorem Res.below {W : List ByteArray} {w w' : World} (h : Res W w) (hb : Below w.heap.size w w') (hg : 6 < w.heap.size) : Res W w' := by
  obtain ⟨b, off, h1, h2, h3⟩ := h.ex
  refine ⟨b, off, Nat.lt_of_lt_of_le h1 hb.size, ?_, fun i hi => ?_⟩
  · rw [hb.cell (p := ⟨_, 0, none⟩) hg]; exact h2
  · rw [hb.cell (p := ⟨b, off + i, none⟩) h1]; exact h3 i hi
theorem Res.glob {W : List ByteArray} {w : World} (h : Res W w) : 6 < w.heap.size := by
  obtain ⟨b, off, h1, h2, h3⟩ := h.ex
  by_cases hlt : 6 < w.heap.size
  · exact hlt
  · exfalso
    simp [World.cell?, Array.getElem?_eq_none (Nat.le_of_not_lt hlt)] at h2
end Go.Proofs.YtcbnefeedoabeaaGreatDoor
/- Contracts: key_any, key_loop. -/
namespace Go.Proofs.YtcbnefeedoabeaaGreatDoor
open Go Go.RowKit

set_option maxHeartbeats 2000000 in
theorem key_loop (W : List ByteArray) (hW : W.length ≤ 1000) (s : ByteArray) (w : World) (hs1 : 1 ≤ s.size) (hs : s.size ≤ 32) (hR : Res W w) :
    Calls Tryz.prog 79 #[.string s] w fun e w' => e = .returned (.bool (keyB W s)) ∧ Below w.heap.size w w' := by
  go_enter Tryz.func79, Tryz.ntmps79
  go_wp2
  go_loopw [] (fun wr => ∃ pos : Nat, pos ≤ s.size ∧ wordTo s pos ∧ wr.heap[w.heap.size]? = some (.stringIter s pos) ∧ Below w.heap.size w wr) (fun wr => s.size - wr.iterPos w.heap.size)
  case atStart =>
    refine ⟨0, Nat.zero_le _, fun i hi => by omega, ?_, (Below.refl _ w).alloc (Nat.le_refl _) _⟩
    simpa using World.iter_heap w s 0
  case round =>
    obtain ⟨pos, hpos, hto, hit, hbw⟩ := hrel
    have hsz : w.heap.size < wr.heap.size := (Array.getElem?_eq_some_iff.1 hit).1
    by_cases hp : pos < s.size
    · have hnx : ∀ ty, (Instr.next (.pointer (some ⟨w.heap.size, 0, none⟩)) true ty).run Tryz.prog wr = _ := fun ty => Lib.run_next_any_at wr w.heap.size s pos ty hit hp
      have hd1 := decode_le s pos
      have hit2 := Lib.iterAt_heap wr w.heap.size s pos (pos + (Utf8.decode s pos).2) hit
      have hbw2 := Lib.below_iterAt hbw (k := w.heap.size) (by omega) s (pos + (Utf8.decode s pos).2)
      have hmea : wr.iterPos w.heap.size = pos := by simp only [World.iterPos, hit]
      by_cases hok : okAt (s.get! pos).toNat pos
      · have hnext := wordTo_succ hto hok
        have hwd := okAt_width s pos hp hok
        rw [okAt_rune s pos hp] at hok
        rw [hwd] at hit2 hbw2 hnx
        have hmea2 : (wr.iterAt w.heap.size s (pos + 1)).iterPos w.heap.size = pos + 1 := by simp only [World.iterPos, hit2]
        clear hwd
        generalize (Utf8.decode s pos).1 = r at hok hnx hd1
        generalize hW1 : wr.iterAt w.heap.size s (pos + 1) = W1 at hit2 hbw2 hnx hmea2
        replace hW1 := Lib.hid hW1
        replace hit2 := Lib.hid hit2
        replace hit := Lib.hid hit
        replace hmea := Lib.hid hmea
        replace hmea2 := Lib.hid hmea2
        replace hnext := Lib.hid hnext
        replace hto := Lib.hid hto
        unfold okAt at hok
        replace hok := Lib.hid hok
        go_wp2_with (first
          | (go_at_call 129; refine (isLetter_any _ _).mono ?_; rintro e w' ⟨rfl, rfl⟩)
          | (go_at_call 130; refine (isDigit_any _ _).mono ?_; rintro e w' ⟨rfl, rfl⟩))
        all_goals first
          | (go_roundw
             case rel => exact ⟨pos + 1, by omega, hnext.out, hit2.out, hbw2⟩
             case measure => rw [hmea.out, hmea2.out]; omega)
          | (exfalso
             have h' := hok.out
             simp_all [letB, digB]
             try omega)
      · have hnot : keyB W s = false := keyB_word (not_wordP hp hok)
        rw [okAt_rune s pos hp] at hok
        generalize (Utf8.decode s pos).1 = r at hok hnx hd1
        generalize hW1 : wr.iterAt w.heap.size s _ = W1 at hit2 hbw2 hnx
        replace hW1 := Lib.hid hW1
        replace hit2 := Lib.hid hit2
        replace hit := Lib.hid hit
        replace hmea := Lib.hid hmea
        replace hnot := Lib.hid hnot
        replace hto := Lib.hid hto
        unfold okAt at hok
        replace hok := Lib.hid hok
        go_wp2_with (first
          | (go_at_call 129; refine (isLetter_any _ _).mono ?_; rintro e w' ⟨rfl, rfl⟩)
          | (go_at_call 130; refine (isDigit_any _ _).mono ?_; rintro e w' ⟨rfl, rfl⟩))
        all_goals first
          | (go_ret
             exact ⟨ret_bool hnot.out.symm, hbw2⟩)
          | (exfalso
             have h' := hok.out
             simp_all [letB, digB]
             try omega)
    · obtain rfl : pos = s.size := by omega
      have hnx : ∀ ty, (Instr.next (.pointer (some ⟨w.heap.size, 0, none⟩)) true ty).run Tryz.prog wr = _ := fun ty => Lib.run_next_end_at wr w.heap.size s s.size ty hit hp
      have hk : keyB W s = !isIn W s := keyB_rest ⟨hs1, hto⟩ hs
      have hR' := hR.below hbw hR.glob
      replace hk := Lib.hid hk
      replace hit := Lib.hid hit
      replace hto := Lib.hid hto
      go_wp2_with (go_at_call 131; refine (isReserved_any W hW _ _ hR').mono ?_; rintro e w' ⟨rfl, rfl⟩)
      go_ret
      exact ⟨ret_bool hk.out.symm, hbw⟩

theorem key_any (W : List ByteArray) (hW : W.length ≤ 1000) (s : ByteArray) (w : World) (hm : s.size ≤ 9223372036854775807) (hR : Res W w) :
    Calls Tryz.prog 79 #[.string s] w fun e w' => e = .returned (.bool (keyB W s)) ∧ Below w.heap.size w w' := by
  by_cases h1 : 1 ≤ s.size ∧ s.size ≤ 32
  · exact key_loop W hW s w h1.1 h1.2 hR
  · have hk : keyB W s = false := by
      by_cases h2 : s.size ≤ 32
      · exact keyB_word fun h => h1 ⟨h.1, h2⟩
      · exact keyB_long h2
    replace hk := Lib.hid hk
    by_cases h2 : s.size < 1
    · go_enter Tryz.func79, Tryz.ntmps79
      go_wp2
      go_ret
      exact ⟨ret_bool hk.out.symm, Below.refl _ _⟩
    · have h3 : 32 < s.size := by omega
      clear h1
      go_enter Tryz.func79, Tryz.ntmps79
      go_wp2
      go_ret
      exact ⟨ret_bool hk.out.symm, Below.refl _ _⟩
end Go.Proofs.YtcbnefeedoabeaaGreatDoor
/- Contracts: refWord_any. -/
namespace Go.Proofs.YtcbnefeedoabeaaGreatDoor
open Go Go.RowKit

set_option maxHeartbeats 1000000 in
theorem refWord_any (s : ByteArray) (w : World) (hs : s.size ≤ 9223372036854775807) :
    Calls Tryz.prog 126 #[.string s] w fun e w' => e = .returned (.bool (decide (wordP s))) ∧ w = w' := by
  go_enter Tryz.func126, Tryz.ntmps126
  go_wp2
  go_loop [3] (fun i => ∃ k : Nat, k ≤ s.size ∧ i = .int .i64 k ∧ wordTo s k) (fun i => s.size - (intOf i).toNat)
  case atStart => exact ⟨0, Nat.zero_le _, rfl, fun i hi => by omega⟩
  case round =>
    obtain ⟨k, hk, rfl, hno⟩ := hrel
    by_cases hlt : k < s.size
    · have hg := get_bang s k hlt
      have hb := (s.get! k).toNat_lt
      by_cases hok : okAt (s.get! k).toNat k
      · have hnext := wordTo_succ hno hok
        replace hno := Lib.hid hno
        replace hnext := Lib.hid hnext
        rw [hg] at hok hb
        unfold okAt at hok
        replace hok := Lib.hid hok
        clear hg
        go_wp2
        all_goals first
          | (go_round
             case rel => exact ⟨k + 1, by omega, by first | go_num | (subst_vars; rfl), hnext.out⟩
             case measure => simp [intOf]; omega)
          | (exfalso
             have h' := hok.out
             simp_all
             try omega)
      · have hnot := not_wordP hlt hok
        replace hno := Lib.hid hno
        replace hnot := Lib.hid hnot
        rw [hg] at hok hb
        unfold okAt at hok
        replace hok := Lib.hid hok
        clear hg
        go_wp2
        all_goals first
          | (go_ret
             exact ⟨ret_bool (decide_eq_false hnot.out).symm, rfl⟩)
          | (exfalso
             have h' := hok.out
             simp_all
             try omega)
    · obtain rfl : k = s.size := by omega
      replace hno := Lib.hid hno
      go_wp2
      go_ret
      refine ⟨ret_bool ?_, rfl⟩
      have := hno.out
      by_cases h0 : 0 < s.size
      · rw [decide_eq_true (show wordP s from ⟨h0, this⟩)]; simp [h0]
      · rw [decide_eq_false (show ¬ wordP s from fun h => h0 h.1)]; simp [h0]
end Go.Proofs.YtcbnefeedoabeaaGreatDoor
/- Contracts: refReserved_any. -/
namespace Go.Proofs.YtcbnefeedoabeaaGreatDoor
open Go Go.RowKit

theorem refReserved_any (w : World) : Calls Tryz.prog 127 #[] w fun e w' => ∃ v, e = .returned v ∧ StrsAt v words w' ∧ Below w.heap.size w w' := by
  go_enter Tryz.func127, Tryz.ntmps127
  go_wp2
  go_ret
  exact ⟨_, rfl, strsAt_alloc words w _, (Below.refl _ w).alloc (Nat.le_refl _) _⟩
end Go.Proofs.YtcbnefeedoabeaaGreatDoor
/- Contracts: refKey_any, refKey_loop. -/
namespace Go.Proofs.YtcbnefeedoabeaaGreatDoor
open Go Go.RowKit

set_option maxHeartbeats 2000000 in
theorem refKey_loop (s : ByteArray) (w : World) (hw : wordP s) (hs : s.size ≤ 32) :
    Calls Tryz.prog 76 #[.string s] w fun e w' => e = .returned (.bool (keyB words s)) ∧ Below w.heap.size w w' := by
  have hk : keyB words s = !isIn words s := keyB_rest hw hs
  have hdw : decide (wordP s) = true := decide_eq_true hw
  replace hk := Lib.hid hk
  replace hw := Lib.hid hw
  go_enter Tryz.func76, Tryz.ntmps76
  go_wp2_with (first
    | (go_at_call 126; refine (refWord_any _ _ (by omega)).mono ?_; rintro e w' ⟨rfl, rfl⟩)
    | (go_at_call 127; refine (refReserved_any _).mono ?_; rintro e w1 ⟨v, rfl, hv, hb1⟩))
  obtain ⟨b, off, hb, rfl, hcell⟩ := hv
  have hlen : words.length ≤ 1000 := by decide
  have hbs := hb1.size
  go_wp2
  go_loop [4] (fun i => ∃ k : Nat, k ≤ words.length ∧ i = .int .i64 k ∧ s ∉ words.take k) (fun i => words.length - (intOf i).toNat)
  case atStart => exact ⟨0, Nat.zero_le _, rfl, by simp⟩
  case round =>
    obtain ⟨k, hk', rfl, hno⟩ := hrel
    by_cases hlt : k < words.length
    · have hc := hcell k hlt
      by_cases hs : s = words[k]
      · have hq : (words[k].toList == s.toList) = true := bytes_yes hs.symm
        have hm : s ∈ words := by rw [hs]; exact List.getElem_mem hlt
        replace hs := Lib.hid hs
        replace hno := Lib.hid hno
        go_wp2
        go_ret
        refine ⟨ret_bool ?_, hb1⟩
        rw [hk.out, isIn_yes hm]
        rfl
      · have hq : (words[k].toList == s.toList) = false := bytes_no fun e => hs e.symm
        have hn := take_mem_succ words s k hlt hno hs
        replace hno := Lib.hid hno
        replace hn := Lib.hid hn
        replace hs := Lib.hid hs
        go_wp2
        go_round
        case rel => exact ⟨k + 1, by omega, by go_num, hn.out⟩
        case measure => simp [intOf]; omega
    · rw [List.take_of_length_le (by omega)] at hno
      replace hno := Lib.hid hno
      go_wp2
      go_ret
      refine ⟨ret_bool ?_, hb1⟩
      rw [hk.out, isIn_no hno.out]
      rfl

theorem refKey_any (s : ByteArray) (w : World) (hm : s.size ≤ 9223372036854775807) :
    Calls Tryz.prog 76 #[.string s] w fun e w' => e = .returned (.bool (keyB words s)) ∧ Below w.heap.size w w' := by
  by_cases hw : wordP s
  · by_cases hs : s.size ≤ 32
    · exact refKey_loop s w hw hs
    · have hk : keyB words s = false := keyB_long hs
      have hdw : decide (wordP s) = true := decide_eq_true hw
      replace hk := Lib.hid hk
      replace hw := Lib.hid hw
      go_enter Tryz.func76, Tryz.ntmps76
      go_wp2_with (go_at_call 126; refine (refWord_any _ _ hm).mono ?_; rintro e w' ⟨rfl, rfl⟩)
      go_ret
      exact ⟨ret_bool hk.out.symm, Below.refl _ _⟩
  · have hk : keyB words s = false := keyB_word hw
    have hdw : decide (wordP s) = false := decide_eq_false hw
    replace hk := Lib.hid hk
    replace hw := Lib.hid hw
    go_enter Tryz.func76, Tryz.ntmps76
    go_wp2_with (go_at_call 126; refine (refWord_any _ _ hm).mono ?_; rintro e w' ⟨rfl, rfl⟩)
    go_ret
    exact ⟨ret_bool hk.out.symm, Below.refl _ _⟩
end Go.Proofs.YtcbnefeedoabeaaGreatDoor
