/- Contract of text.Unquote: what a text is without its quotation marks, or the error. -/
import Derived.Test.YtfdmeinfjfmnlaaDoorUnesc
namespace Go.Proofs.YtfdmeinfjfmnlaaDoor
open Go Go.RowKit

/-- What stands between the first and the last sign. -/
def inner (s : ByteArray) : List UInt8 := (s.data.toList.drop 1).take (s.size - 2)
def strE (l : List UInt8) (e : Int) : Value := .tuple #[.string ⟨l.toArray⟩, .int .i64 e]
def unqIn : Option (List UInt8) → Value
  | none => strE [] 1
  | some o => if validB ⟨o.toArray⟩ then strE o 0 else strE [] 2
def unqV (s : ByteArray) : Value := if 2 ≤ s.size ∧ s.get! 0 = 34 ∧ s.get! (s.size - 1) = 34 then unqIn (unS (inner s) false []) else strE [] 1
theorem unqV_bad {s : ByteArray} (h : ¬ (2 ≤ s.size ∧ s.get! 0 = 34 ∧ s.get! (s.size - 1) = 34)) : unqV s = strE [] 1 := by unfold unqV; rw [if_neg h]
theorem unqV_in {s : ByteArray} (h : 2 ≤ s.size ∧ s.get! 0 = 34 ∧ s.get! (s.size - 1) = 34) : unqV s = unqIn (unS (inner s) false []) := by unfold unqV; rw [if_pos h]
theorem ne34 (s : ByteArray) (k : Nat) (h : k < s.size) : (((s[k]'h).toNat : Int) != 34) = decide (¬ s.get! k = 34) := by
  rw [get_bang s k h]
  rw [Bool.eq_iff_iff]
  simp only [bne_iff_ne, ne_eq, decide_eq_true_eq, ← UInt8.toNat_inj, UInt8.reduceToNat]
  omega

theorem unS_length : ∀ (l : List UInt8) (op : Bool) (out o : List UInt8), unS l op out = some o → o.length ≤ out.length + l.length
  | [], false, out, o, h => by rw [unS] at h; cases h; simp
  | [], true, out, o, h => by rw [unS] at h; cases h
  | c :: t, true, out, o, h => by
    rw [unS] at h
    split at h
    · have := unS_length t false (out ++ [c]) o h
      simp at this ⊢
      omega
    · cases h
  | c :: t, false, out, o, h => by
    rw [unS] at h
    split at h
    · cases h
    · split at h
      · have := unS_length t true out o h
        simp at this ⊢
        omega
      · have := unS_length t false (out ++ [c]) o h
        simp at this ⊢
        omega
theorem cell_below {w w' : World} {b o : Nat} {v : Value} (h : w.cell? ⟨b, o, none⟩ = some v) (hb : Below w.heap.size w w') : w'.cell? ⟨b, o, none⟩ = some v := by
  by_cases hlt : b < w.heap.size
  · rw [hb.cell (p := ⟨b, o, none⟩) hlt]; exact h
  · exfalso
    simp [World.cell?, Array.getElem?_eq_none (Nat.le_of_not_lt hlt)] at h
theorem Tabs.below {w w' : World} (h : Tabs w) (hb : Below w.heap.size w w') : Tabs w' :=
  ⟨fun c hc => cell_below (h.1 c hc) hb, fun i hi => ⟨cell_below (h.2 i hi).1 hb, cell_below (h.2 i hi).2 hb⟩⟩

set_option maxHeartbeats 4000000 in
theorem unquote_any (s : ByteArray) (w : World) (hs : s.size ≤ 140737488355328) (hT : Tabs w) :
    Calls Tryd.prog 20 #[.string s] w fun e w' => e = .returned (unqV s) ∧ Below w.heap.size w w' := by
  by_cases h2 : 2 ≤ s.size
  · have e0 := ne34 s 0 (by omega)
    have e1 := ne34 s (s.size - 1) (by omega)
    by_cases h0 : s.get! 0 = 34
    · by_cases h1 : s.get! (s.size - 1) = 34
      · have hv := Lib.hid (unqV_in ⟨h2, h0, h1⟩)
        rw [decide_eq_false (fun h => h h0)] at e0
        rw [decide_eq_false (fun h => h h1)] at e1
        replace h0 := Lib.hid h0
        replace h1 := Lib.hid h1
        have b1 : (1 : Int) ≤ (s.size : Int) - 1 := by omega
        have b2 : (s.size : Int) - 1 ≤ (s.size : Int) := by omega
        go_enter Tryd.func20, Tryd.ntmps20
        have hx : (s.extract 1 (s.size - 1)).data.toList = inner s := by
          rw [Lib.extract_data, show s.size - 1 - 1 = s.size - 2 by omega]
          rfl
        have hxs : (s.extract 1 (s.size - 1)).size ≤ 140737488355328 := by rw [ByteArray.size_extract]; omega
        have hu := unescape_any (s.extract 1 (s.size - 1)) w hxs
        rw [hx] at hu
        clear hx hxs
        have hil : (inner s).length ≤ 140737488355328 := by
          unfold inner
          have : s.data.toList.length = s.size := rfl
          rw [List.length_take, List.length_drop]
          omega
        cases hr : unS (inner s) false [] with
        | none =>
          rw [hr] at hu hv
          replace hr := Lib.hid hr
          replace hu : Calls Tryd.prog 35 #[.string (s.extract 1 (s.size - 1))] w fun e w' => e = .returned (.tuple #[.string ⟨#[]⟩, .bool false]) ∧ Below w.heap.size w w' := hu
          go_wp2_with (go_at_call 35; refine hu.mono ?_; rintro e w1 ⟨rfl, hb1⟩)
          go_ret2
          refine ⟨ret_v ?_, hb1⟩
          rw [hv.out]
          rfl
        | some o =>
          rw [hr] at hu hv
          have hol : o.length ≤ 140737488355328 := by
            have := unS_length (inner s) false [] o hr
            simp at this
            omega
          replace hr := Lib.hid hr
          replace hu : Calls Tryd.prog 35 #[.string (s.extract 1 (s.size - 1))] w fun e w' => e = .returned (.tuple #[.string ⟨o.toArray⟩, .bool true]) ∧ Below w.heap.size w w' := hu
          have hosz : (⟨o.toArray⟩ : ByteArray).size ≤ 9223372036854775807 := by show o.toArray.size ≤ _; simp; omega
          cases hvd : validB ⟨o.toArray⟩ with
          | true =>
            go_wp2_with (first
              | (go_at_call 35; refine hu.mono ?_; rintro e w1 ⟨rfl, hb1⟩)
              | (go_at_call 16; refine (valid_any _ _ hosz (hT.below hb1)).mono ?_; rintro e w2 ⟨rfl, hb2⟩))
            go_ret2
            refine ⟨ret_v ?_, hb1.trans (hb2.mono hb1.size)⟩
            rw [hv.out, unqIn, if_pos hvd]
            rfl
          | false =>
            go_wp2_with (first
              | (go_at_call 35; refine hu.mono ?_; rintro e w1 ⟨rfl, hb1⟩)
              | (go_at_call 16; refine (valid_any _ _ hosz (hT.below hb1)).mono ?_; rintro e w2 ⟨rfl, hb2⟩))
            go_ret2
            refine ⟨ret_v ?_, hb1.trans (hb2.mono hb1.size)⟩
            rw [hv.out, unqIn, if_neg (by rw [hvd]; simp)]
            rfl
      · have hv := Lib.hid (unqV_bad fun h => h1 h.2.2)
        rw [decide_eq_false (fun h => h h0)] at e0
        rw [decide_eq_true h1] at e1
        replace h0 := Lib.hid h0
        replace h1 := Lib.hid h1
        go_enter Tryd.func20, Tryd.ntmps20
        go_wp2
        go_ret2
        refine ⟨ret_v ?_, Below.refl _ _⟩
        rw [hv.out]
        rfl
    · have hv := Lib.hid (unqV_bad fun h => h0 h.2.1)
      rw [decide_eq_true h0] at e0
      replace h0 := Lib.hid h0
      clear e1
      go_enter Tryd.func20, Tryd.ntmps20
      go_wp2
      go_ret2
      refine ⟨ret_v ?_, Below.refl _ _⟩
      rw [hv.out]
      rfl
  · have hv := Lib.hid (unqV_bad fun h => h2 h.1)
    have h2' : (s.size : Int) < 2 := by omega
    clear h2
    go_enter Tryd.func20, Tryd.ntmps20
    go_wp2
    go_ret2
    refine ⟨ret_v ?_, Below.refl _ _⟩
    rw [hv.out]
    rfl
end Go.Proofs.YtfdmeinfjfmnlaaDoor
