/- Contract of text.unescape: what stands between the quotation marks, without its backslashes, or that an escape is wrong. -/
import Derived.Test.YtfdmeinfjfmnlaaDoorRefQuote
namespace Go.Proofs.YtfdmeinfjfmnlaaDoor
open Go Go.RowKit

/-- From left to right: what is still to be read, whether a backslash is open, and what was read. -/
def unS : List UInt8 → Bool → List UInt8 → Option (List UInt8)
  | [], false, out => some out
  | [], true, _ => none
  | c :: t, true, out => if isEsc c then unS t false (out ++ [c]) else none
  | c :: t, false, out => if c = 34 then none else if c = 92 then unS t true out else unS t false (out ++ [c])
theorem unS_plain : ∀ (n : Nat) (l out : List UInt8), n ≤ l.length → (∀ c ∈ l.take n, isEsc c = false) → unS l false out = unS (l.drop n) false (out ++ l.take n)
  | 0, l, out, _, _ => by simp
  | n + 1, [], out, h, _ => by simp at h
  | n + 1, c :: t, out, h, hp => by
    have hc := hp c (by simp)
    have h1 : ¬ c = 34 := by rintro rfl; simp [isEsc] at hc
    have h2 : ¬ c = 92 := by rintro rfl; simp [isEsc] at hc
    rw [unS, if_neg h1, if_neg h2, unS_plain n t (out ++ [c]) (by simpa using h) (fun d hd => hp d (by simp [hd]))]
    simp
def unescV : Option (List UInt8) → Value
  | some o => .tuple #[.string ⟨o.toArray⟩, .bool true]
  | none => .tuple #[.string ⟨#[]⟩, .bool false]

theorem rune_is (s : ByteArray) (pos : Nat) (h : pos < s.size) (n : Nat) (hn : n < 128) : (Utf8.decode s pos).1 = n ↔ (s.get! pos).toNat = n := by
  rw [get_bang s pos h]
  by_cases ha : (s[pos]'h).toNat < 128
  · rw [decode_ascii s pos h ha]
  · have := (decode_high s pos h (by omega)).1
    constructor <;> (intro _; omega)
theorem drop_at (s : ByteArray) (pos : Nat) (h : pos < s.size) : s.data.toList.drop pos = s.get! pos :: s.data.toList.drop (pos + 1) := by
  rw [List.drop_eq_getElem_cons (by simpa using h), get_list s pos h]
  simp [List.getD, h]
/-- A rune that is no quotation mark and no backslash: none of its bytes is. -/
theorem rune_plain (s : ByteArray) (pos : Nat) (h : pos < s.size) (he : isEsc (s.get! pos) = false) : ∀ c ∈ (s.data.toList.drop pos).take (Utf8.decode s pos).2, isEsc c = false := by
  have hf := decode_fits s pos h
  have hl : s.data.toList.length = s.size := rfl
  intro c hc
  obtain ⟨i, hi, rfl⟩ := List.getElem_of_mem hc
  simp only [List.length_take, List.length_drop] at hi
  have hp : pos + i < s.size := by omega
  have hg : ((s.data.toList.drop pos).take (Utf8.decode s pos).2)[i]'(by simp only [List.length_take, List.length_drop]; omega) = s.get! (pos + i) := by
    rw [get_list s _ hp]
    simp [List.getD, hp]
  rw [hg]
  by_cases h0 : i = 0
  · subst h0; exact he
  · have := decode_tail s pos i (by omega) (by omega)
    unfold isEsc
    rw [Bool.eq_false_iff]
    simp only [ne_eq, Bool.or_eq_true, beq_iff_eq, ← UInt8.toNat_inj, UInt8.reduceToNat]
    omega
theorem esc_width (s : ByteArray) (pos : Nat) (h : pos < s.size) (he : isEsc (s.get! pos) = true) : (Utf8.decode s pos).2 = 1 := by
  rw [get_bang s pos h] at he
  unfold isEsc at he
  simp only [Bool.or_eq_true, beq_iff_eq, ← UInt8.toNat_inj, UInt8.reduceToNat] at he
  rw [decode_ascii s pos h (by omega)]
theorem ret_v {a b : Value} (h : a = b) : Ending.returned a = .returned b := by rw [h]

theorem mid_snoc (l : List UInt8) (f p n : Nat) (h : f ≤ p) : (l.take (p + n)).drop f = (l.take p).drop f ++ (l.drop p).take n := by
  rw [List.take_add]
  by_cases hp : p ≤ l.length
  · rw [List.drop_append_of_le_length (by rw [List.length_take]; omega)]
  · rw [List.drop_eq_nil_of_le (show l.length ≤ p by omega)]
    simp

/-- What the loop holds: the builder's bytes, from where on the rest is still to be copied, and whether a backslash is open. -/
def UnRel (s : ByteArray) (R : Option (List UInt8)) (B I : Nat) (fr op ft : Value) (w wr : World) : Prop :=
  ∃ (pos from' : Nat) (open' : Bool) (acc : List UInt8), pos ≤ s.size ∧ from' ≤ pos ∧ (open' = true → from' = pos) ∧ fr = .int .i64 from' ∧ op = .bool open' ∧ ft = .bool true ∧
    unS (s.data.toList.drop pos) open' (acc ++ (s.data.toList.take pos).drop from') = R ∧ acc.length ≤ from' ∧ Bld B B (Lib.byteCells acc) wr ∧ wr.heap[I]? = some (.stringIter s pos) ∧ Below B w wr

set_option maxHeartbeats 8000000 in
set_option maxRecDepth 100000 in
theorem unescape_any (s : ByteArray) (w : World) (hs : s.size ≤ 140737488355328) :
    Calls Tryd.prog 35 #[.string s] w fun e w' => e = .returned (unescV (unS s.data.toList false [])) ∧ Below w.heap.size w w' := by
  obtain ⟨R, hR⟩ : ∃ R, unS s.data.toList false [] = R := ⟨_, rfl⟩
  rw [hR]
  replace hR := Lib.hid hR
  have hfresh : Bld w.heap.size w.heap.size (Lib.byteCells []) (w.alloc (.cells #[.pointer none, .slice none 0 0] 41)) := Lib.IsBuilderF.of (Lib.fresh_isBuilder 41 5 w)
  go_enter Tryd.func35, Tryd.ntmps35
  go_wp2
  go_step3
  go_wp2
  go_step3
  go_wp2
  go_loopw [5, 6, 7] (fun fr op ft wr => UnRel s R w.heap.size (w.heap.size + 1) fr op ft w wr) (fun _ _ _ wr => s.size - wr.iterPos (w.heap.size + 1))
  case atStart =>
    refine ⟨0, 0, false, [], Nat.zero_le _, Nat.le_refl _, (fun h => (by cases h)), rfl, rfl, rfl, by simpa using hR.out, by simp, hfresh.alloc _, ?_, ((Below.refl _ w).alloc (Nat.le_refl _) _).alloc (by simp) _⟩
    simpa using World.iter_heap (w.alloc (.cells #[.pointer none, .slice none 0 0] 41)) s 0
  case round =>
    obtain ⟨pos, fr, op, acc, hpos, hfp, hop, rfl, rfl, rfl, hun, hacc, hI, hit, hbw⟩ := hrel
    have hsz : w.heap.size + 1 < wr.heap.size := (Array.getElem?_eq_some_iff.1 hit).1
    have hmea : wr.iterPos (w.heap.size + 1) = pos := by simp only [World.iterPos, hit]
    by_cases hp : pos < s.size
    · have hnx : ∀ ty, (Instr.next (.pointer (some ⟨w.heap.size + 1, 0, none⟩)) true ty).run Tryd.prog wr = _ := fun ty => Lib.run_next_any_at wr (w.heap.size + 1) s pos ty hit hp
      have hd1 := decode_le s pos
      have hfit := decode_fits s pos hp
      have hI2 := hI.iterAt hit (pos + (Utf8.decode s pos).2)
      have hit2 := Lib.iterAt_heap wr (w.heap.size + 1) s pos (pos + (Utf8.decode s pos).2) hit
      have hbw2 := Lib.below_iterAt hbw (k := w.heap.size + 1) (by omega) s (pos + (Utf8.decode s pos).2)
      have hsz2 : w.heap.size + 1 < (wr.iterAt (w.heap.size + 1) s (pos + (Utf8.decode s pos).2)).heap.size := by rw [Lib.iterAt_size]; exact hsz
      have hes := escB_rune s pos hp
      have hat := drop_at s pos hp
      have h34 := rune_is s pos hp 34 (by omega)
      have h92 := rune_is s pos hp 92 (by omega)
      have hrp := rune_plain s pos hp
      have hew := esc_width s pos hp
      have hmid := mid_snoc s.data.toList fr pos (Utf8.decode s pos).2 hfp
      have hmid1 := mid_snoc s.data.toList fr pos 1 hfp
      rw [hat, List.take_succ_cons, List.take_zero] at hmid1
      cases hc : isEsc (s.get! pos) with
      | true =>
        have hwd := hew hc
        rw [hwd] at hnx hfit hI2 hit2 hbw2 hsz2 hmid
        rw [hc] at hes
        clear hew hrp hmid
        cases op with
        | true =>
          obtain rfl : fr = pos := hop rfl
          rw [hat, unS, if_pos hc, List.append_assoc, ← hmid1] at hun
          generalize (Utf8.decode s fr).1 = r at hnx hd1 hes h34 h92
          generalize hW1 : wr.iterAt (w.heap.size + 1) s (fr + 1) = W1 at hit2 hbw2 hnx hI2 hsz2
          replace hW1 := Lib.hid hW1
          replace hit := Lib.hid hit
          replace hmea := Lib.hid hmea
          replace hun := Lib.hid hun
          replace hat := Lib.hid hat
          replace hmid1 := Lib.hid hmid1
          replace hc := Lib.hid hc
          replace hwd := Lib.hid hwd
          replace hit2 := Lib.hid hit2
          clear h34 h92 hop
          go_wp2_with (go_at_call 32; refine (isEscaped_any _ _).mono ?_; rintro e w' ⟨rfl, rfl⟩)
          go_roundw
          case rel => exact ⟨fr + 1, fr, false, acc, hfit.2, by omega, fun h => (by cases h), rfl, rfl, rfl, hun.out, hacc, hI2, hit2.out, hbw2⟩
          case measure => rw [hmea.out]; simp only [World.iterPos, hit2.out]; omega
        | false =>
          generalize (Utf8.decode s pos).1 = r at hnx hd1 hes h34 h92
          generalize hW1 : wr.iterAt (w.heap.size + 1) s (pos + 1) = W1 at hit2 hbw2 hnx hI2 hsz2
          replace hW1 := Lib.hid hW1
          replace hit := Lib.hid hit
          replace hmea := Lib.hid hmea
          replace hmid1 := Lib.hid hmid1
          replace hwd := Lib.hid hwd
          replace hit2 := Lib.hid hit2
          have hcc : s.get! pos = 34 ∨ s.get! pos = 92 := by simpa [isEsc] using hc
          replace hc := Lib.hid hc
          clear hop
          rcases hcc with hcc | hcc
          · rw [hat, unS, if_pos hcc] at hun
            have hr : r = 34 := h34.2 (by rw [hcc]; rfl)
            subst hr
            subst hun
            replace hat := Lib.hid hat
            replace hcc := Lib.hid hcc
            clear h34 h92
            go_wp2
            try rw [Exit.noGoto_ret]
            go_ret2
            exact ⟨rfl, hbw2⟩
          · have hne : ¬ s.get! pos = 34 := by rw [hcc]; decide
            rw [hat, unS, if_neg hne, if_pos hcc] at hun
            have hr : r = 92 := h92.2 (by rw [hcc]; rfl)
            subst hr
            replace hat := Lib.hid hat
            replace hcc := Lib.hid hcc
            replace hun := Lib.hid hun
            replace hne := Lib.hid hne
            clear h34 h92
            have hsx : (s.extract fr pos).size = pos - fr := by rw [ByteArray.size_extract]; omega
            replace hsx := Lib.hid hsx
            go_wp2_with (go_at_call 41; refine (writeString_k w.heap.size w.heap.size _ _ _ hI2 (by rw [Lib.byteCells_length, hsx.out]; omega) (by omega)).mono ?_; rintro e W2 ⟨rfl, h2, b2, k2⟩)
            have hit3 := k2.iter hit2.out (by omega)
            have e1 : Lib.byteCells acc ++ Lib.strCells (s.extract fr pos) = Lib.byteCells (acc ++ (s.data.toList.take pos).drop fr) := by
              rw [Lib.byteCells_append]
              congr 1
              show Lib.byteCells (s.extract fr pos).data.toList = _
              rw [Lib.extract_data, List.drop_take]
            rw [e1] at h2
            replace e1 := Lib.hid e1
            go_wp2
            go_roundw
            case rel =>
              refine ⟨pos + 1, pos + 1, true, acc ++ (s.data.toList.take pos).drop fr, hfit.2, Nat.le_refl _, (fun _ => rfl), by go_num, rfl, rfl, ?_, ?_, Or.inr h2, hit3, hbw2.trans b2⟩
              · rw [List.drop_eq_nil_of_le (show (s.data.toList.take (pos + 1)).length ≤ pos + 1 from List.length_take_le _ _), List.append_nil]
                exact hun.out
              · have := List.length_take_le pos s.data.toList
                rw [List.length_append, List.length_drop]
                omega
            case measure => rw [hmea.out]; simp only [World.iterPos, hit3]; omega
      | false =>
        rw [hc] at hes
        have hn34 : ¬ (Utf8.decode s pos).1 = 34 := fun e => by
          have := h34.1 e
          rw [show s.get! pos = 34 from UInt8.toNat_inj.1 this] at hc
          cases hc
        have hn92 : ¬ (Utf8.decode s pos).1 = 92 := fun e => by
          have := h92.1 e
          rw [show s.get! pos = 92 from UInt8.toNat_inj.1 this] at hc
          cases hc
        have hpl := hrp hc
        clear h34 h92 hew hmid1 hrp
        cases op with
        | true =>
          rw [hat, unS, if_neg (by rw [hc]; simp)] at hun
          subst hun
          generalize (Utf8.decode s pos).2 = wd at hnx hfit hI2 hit2 hbw2 hsz2 hmid hpl
          generalize (Utf8.decode s pos).1 = r at hnx hd1 hes hn34 hn92
          generalize hW1 : wr.iterAt (w.heap.size + 1) s (pos + wd) = W1 at hit2 hbw2 hnx hI2 hsz2
          replace hW1 := Lib.hid hW1
          replace hit := Lib.hid hit
          replace hmea := Lib.hid hmea
          replace hmid := Lib.hid hmid
          replace hit2 := Lib.hid hit2
          replace hat := Lib.hid hat
          replace hc := Lib.hid hc
          replace hpl := Lib.hid hpl
          replace hn34 := Lib.hid hn34
          replace hn92 := Lib.hid hn92
          clear hop
          go_wp2_with (go_at_call 32; refine (isEscaped_any _ _).mono ?_; rintro e w' ⟨rfl, rfl⟩)
          try rw [Exit.noGoto_ret]
          go_ret2
          exact ⟨rfl, hbw2⟩
        | false =>
          have hst := unS_plain (Utf8.decode s pos).2 (s.data.toList.drop pos) (acc ++ (s.data.toList.take pos).drop fr) (by rw [List.length_drop]; have : s.data.toList.length = s.size := rfl; omega) hpl
          rw [List.drop_drop, List.append_assoc, ← hmid] at hst
          rw [hst] at hun
          clear hst
          generalize (Utf8.decode s pos).2 = wd at hnx hfit hI2 hit2 hbw2 hsz2 hmid hpl hun
          generalize (Utf8.decode s pos).1 = r at hnx hd1 hes hn34 hn92
          generalize hW1 : wr.iterAt (w.heap.size + 1) s (pos + wd) = W1 at hit2 hbw2 hnx hI2 hsz2
          replace hW1 := Lib.hid hW1
          replace hit := Lib.hid hit
          replace hmea := Lib.hid hmea
          replace hmid := Lib.hid hmid
          replace hit2 := Lib.hid hit2
          replace hat := Lib.hid hat
          replace hc := Lib.hid hc
          replace hpl := Lib.hid hpl
          replace hun := Lib.hid hun
          have hb34 : ((r : Int) == 34) = false := by simp; omega
          have hb92 : ((r : Int) == 92) = false := by simp; omega
          replace hn34 := Lib.hid hn34
          replace hn92 := Lib.hid hn92
          clear hop
          go_wp2
          go_roundw
          case rel => exact ⟨pos + wd, fr, false, acc, hfit.2, by omega, (fun h => (by cases h)), rfl, rfl, rfl, hun.out, hacc, hI2, hit2.out, hbw2⟩
          case measure => rw [hmea.out]; simp only [World.iterPos, hit2.out]; omega
    · obtain rfl : pos = s.size := by omega
      have hnx : ∀ ty, (Instr.next (.pointer (some ⟨w.heap.size + 1, 0, none⟩)) true ty).run Tryd.prog wr = _ := fun ty => Lib.run_next_end_at wr (w.heap.size + 1) s s.size ty hit hp
      replace hit := Lib.hid hit
      replace hmea := Lib.hid hmea
      rw [take_all, List.drop_eq_nil_of_le (show s.data.toList.length ≤ s.size from Nat.le_refl _)] at hun
      cases op with
      | true =>
        rw [unS] at hun
        subst hun
        replace hop := Lib.hid hop
        go_wp2
        try rw [Exit.noGoto_ret]
        go_ret2
        exact ⟨rfl, hbw⟩
      | false =>
        rw [unS] at hun
        subst hun
        clear hop
        have hsx : (s.extract fr s.size).size = s.size - fr := by rw [ByteArray.size_extract]; omega
        replace hsx := Lib.hid hsx
        go_wp2_with (go_at_call 41; refine (writeString_k w.heap.size w.heap.size _ _ _ hI (by rw [Lib.byteCells_length, hsx.out]; omega) (by omega)).mono ?_; rintro e W2 ⟨rfl, h2, b2, k2⟩)
        have e1 : Lib.byteCells acc ++ Lib.strCells (s.extract fr s.size) = Lib.byteCells (acc ++ s.data.toList.drop fr) := by
          rw [Lib.byteCells_append]
          congr 1
          show Lib.byteCells (s.extract fr s.size).data.toList = _
          rw [Lib.extract_data, List.take_of_length_le (by rw [List.length_drop]; have : s.data.toList.length = s.size := rfl; omega)]
        rw [e1] at h2
        replace e1 := Lib.hid e1
        have hz2 := b2.size
        go_wp2_with (go_at_call 34; refine (string_k w.heap.size w.heap.size _ _ (Or.inr h2) (by omega)).mono ?_; rintro e W3 ⟨rfl, h3, b3, k3⟩)
        try rw [Exit.noGoto_ret]
        go_ret2
        exact ⟨rfl, (hbw.trans b2).trans b3⟩
end Go.Proofs.YtfdmeinfjfmnlaaDoor
