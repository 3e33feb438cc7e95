/- Contracts of the document's answers for reserved words and keys. -/
import Derived.Test.YtfdmeinfjfmnlaaDoorKeys
namespace Go.Proofs.YtfdmeinfjfmnlaaDoor
open Go Go.RowKit

/-- The reserved words, as the chapter lists them. -/
def words : List ByteArray := [⟨#[97, 110, 100]⟩, ⟨#[97, 114, 109, 115]⟩, ⟨#[97, 116, 116, 114, 105, 98, 117, 116, 101]⟩, ⟨#[98, 111, 111, 108]⟩, ⟨#[99, 108, 97, 105, 109, 115]⟩, ⟨#[99, 111, 110, 116, 97, 105, 110, 115]⟩, ⟨#[99, 111, 111, 108]⟩, ⟨#[99, 111, 111, 108, 105, 110, 103]⟩, ⟨#[100, 101, 102, 97, 117, 108, 116]⟩, ⟨#[100, 114, 97, 102, 116]⟩, ⟨#[101, 110, 100, 115]⟩, ⟨#[101, 120, 99, 108, 117, 100, 101]⟩, ⟨#[101, 120, 105, 115, 116, 115]⟩, ⟨#[101, 120, 112, 101, 114, 105, 109, 101, 110, 116]⟩, ⟨#[102, 97, 108, 115, 101]⟩, ⟨#[102, 108, 97, 103]⟩, ⟨#[104, 111, 108, 100, 111, 117, 116]⟩, ⟨#[105, 110]⟩, ⟨#[105, 110, 99, 108, 117, 100, 101]⟩, ⟨#[105, 115]⟩, ⟨#[108, 97, 121, 101, 114]⟩, ⟨#[108, 105, 115, 116]⟩, ⟨#[109, 101, 109, 98, 101, 114]⟩, ⟨#[110, 101, 101, 100, 115]⟩, ⟨#[110, 111, 116]⟩, ⟨#[110, 117, 109, 98, 101, 114]⟩, ⟨#[111, 102, 102]⟩, ⟨#[111, 110]⟩, ⟨#[111, 114]⟩, ⟨#[114, 117, 108, 101]⟩, ⟨#[114, 117, 110, 110, 105, 110, 103]⟩, ⟨#[115, 97, 108, 116]⟩, ⟨#[115, 101, 103, 109, 101, 110, 116]⟩, ⟨#[115, 101, 114, 118, 101]⟩, ⟨#[115, 101, 116, 116, 105, 110, 103, 115]⟩, ⟨#[115, 112, 108, 105, 116]⟩, ⟨#[115, 116, 97, 114, 116, 115]⟩, ⟨#[115, 116, 111, 112, 112, 101, 100]⟩, ⟨#[116, 97, 114, 103, 101, 116]⟩, ⟨#[116, 101, 120, 116]⟩, ⟨#[116, 111]⟩, ⟨#[116, 114, 117, 101]⟩, ⟨#[117, 110, 116, 105, 108]⟩, ⟨#[118, 97, 114, 105, 97, 116, 105, 111, 110, 115]⟩, ⟨#[118, 101, 114, 115, 105, 111, 110]⟩, ⟨#[119, 104, 101, 110]⟩]
theorem words_length : words.length = 46 := rfl

/-- A slice of strings that holds a list. -/
def StrsAt (v : Value) (W : List ByteArray) (w : World) : Prop := ∃ b off, b < w.heap.size ∧ v = .slice (some ⟨b, off, none⟩) W.length W.length ∧ ∀ (i : Nat) (h : i < W.length), w.cell? ⟨b, off + i, none⟩ = some (.string W[i])

theorem strsAt_alloc (W : List ByteArray) (w : World) (T : TypeId) : StrsAt (.slice (some ⟨w.heap.size, 0, none⟩) W.length W.length) W (w.alloc (.cells (W.map Value.string).toArray T)) := by
  refine ⟨w.heap.size, 0, by simp, rfl, fun i hi => ?_⟩
  rw [Nat.zero_add, World.cell?_alloc_at _ _ _ _ rfl]
  simp [hi]

theorem refReserved_any (w : World) : Calls Tryd.prog 14 #[] w fun e w' => ∃ v, e = .returned v ∧ StrsAt v words w' ∧ Below w.heap.size w w' := by
  go_enter Tryd.func14, Tryd.ntmps14
  go_wp2
  go_ret
  exact ⟨_, rfl, strsAt_alloc words w _, (Below.refl _ w).alloc (Nat.le_refl _) _⟩

set_option maxHeartbeats 2000000 in
theorem refKey_loop (s : ByteArray) (w : World) (hw : wordP s) (hs : s.size ≤ 32) :
    Calls Tryd.prog 12 #[.string s] w fun e w' => e = .returned (.bool (keyB words s)) ∧ Below w.heap.size w w' := by
  have hk : keyB words s = !isIn words s := keyB_rest hw hs
  have hdw : decide (wordP s) = true := decide_eq_true hw
  replace hk := Lib.hid hk
  replace hw := Lib.hid hw
  go_enter Tryd.func12, Tryd.ntmps12
  go_wp2_with (first
    | (go_at_call 29; refine (refWord_any _ _ (by omega)).mono ?_; rintro e w' ⟨rfl, rfl⟩)
    | (go_at_call 14; refine (refReserved_any _).mono ?_; rintro e w1 ⟨v, rfl, hv, hb1⟩))
  obtain ⟨b, off, hb, rfl, hcell⟩ := hv
  have hlen : words.length ≤ 1000 := by decide
  have hbs := hb1.size
  go_wp2
  go_loop [4] (fun i => ∃ k : Nat, k ≤ words.length ∧ i = .int .i64 k ∧ s ∉ words.take k) (fun i => words.length - (intOf i).toNat)
  case atStart => exact ⟨0, Nat.zero_le _, rfl, by simp⟩
  case round =>
    obtain ⟨k, hk', rfl, hno⟩ := hrel
    by_cases hlt : k < words.length
    · have hc := hcell k hlt
      by_cases hs : s = words[k]
      · have hq : (words[k].toList == s.toList) = true := bytes_yes hs.symm
        have hm : s ∈ words := by rw [hs]; exact List.getElem_mem hlt
        replace hs := Lib.hid hs
        replace hno := Lib.hid hno
        go_wp2
        go_ret
        refine ⟨ret_bool ?_, hb1⟩
        rw [hk.out, isIn_yes hm]
        rfl
      · have hq : (words[k].toList == s.toList) = false := bytes_no fun e => hs e.symm
        have hn := take_mem_succ words s k hlt hno hs
        replace hno := Lib.hid hno
        replace hn := Lib.hid hn
        replace hs := Lib.hid hs
        go_wp2
        go_round
        case rel => exact ⟨k + 1, by omega, by go_num, hn.out⟩
        case measure => simp [intOf]; omega
    · rw [List.take_of_length_le (by omega)] at hno
      replace hno := Lib.hid hno
      go_wp2
      go_ret
      refine ⟨ret_bool ?_, hb1⟩
      rw [hk.out, isIn_no hno.out]
      rfl

theorem refKey_any (s : ByteArray) (w : World) (hm : s.size ≤ 9223372036854775807) :
    Calls Tryd.prog 12 #[.string s] w fun e w' => e = .returned (.bool (keyB words s)) ∧ Below w.heap.size w w' := by
  by_cases hw : wordP s
  · by_cases hs : s.size ≤ 32
    · exact refKey_loop s w hw hs
    · have hk : keyB words s = false := keyB_long hs
      have hdw : decide (wordP s) = true := decide_eq_true hw
      replace hk := Lib.hid hk
      replace hw := Lib.hid hw
      go_enter Tryd.func12, Tryd.ntmps12
      go_wp2_with (go_at_call 29; refine (refWord_any _ _ hm).mono ?_; rintro e w' ⟨rfl, rfl⟩)
      go_ret
      exact ⟨ret_bool hk.out.symm, Below.refl _ _⟩
  · have hk : keyB words s = false := keyB_word hw
    have hdw : decide (wordP s) = false := decide_eq_false hw
    replace hk := Lib.hid hk
    replace hw := Lib.hid hw
    go_enter Tryd.func12, Tryd.ntmps12
    go_wp2_with (go_at_call 29; refine (refWord_any _ _ hm).mono ?_; rintro e w' ⟨rfl, rfl⟩)
    go_ret
    exact ⟨ret_bool hk.out.symm, Below.refl _ _⟩
end Go.Proofs.YtfdmeinfjfmnlaaDoor
