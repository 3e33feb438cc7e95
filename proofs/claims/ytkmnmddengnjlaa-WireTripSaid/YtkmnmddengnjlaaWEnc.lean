/- What the law WireTrip writes and reads: the encodings in a row, and contracts of its put and get. -/
import Derived.Test.YtkmnmddengnjlaaWMod
import Derived.Deep.CutBlock
namespace Go.Proofs.Ytkmnmddengnjlaa
open Go Go.RowKit

/-- One drawn encoding. -/
def encOf (c : Nat) (z : Int) (u : Nat) (s : ByteArray) : List UInt8 := if c = 0 then numB z else if c = 1 then lenB u else if c = 2 then boolB (decide (z % 2 = 0)) else textB s
/-- The encodings for these choices, the first one for the number f i. -/
def encs (f : Nat → Int) (u : Nat) (s : ByteArray) : List UInt8 → Nat → List UInt8
  | [], _ => []
  | c :: t, i => encOf (c.toNat % 4) (f i) u s ++ encs f u s t (i + 1)
theorem encs_append (f : Nat → Int) (u : Nat) (s : ByteArray) : ∀ (l m : List UInt8) (i : Nat), encs f u s (l ++ m) i = encs f u s l i ++ encs f u s m (i + l.length)
  | [], m, i => rfl
  | c :: t, m, i => by
    rw [List.cons_append]
    simp only [encs]
    rw [encs_append f u s t m (i + 1), List.append_assoc, List.length_cons, show i + 1 + t.length = i + (t.length + 1) from by omega]
theorem encs_snoc (f : Nat → Int) (u : Nat) (s : ByteArray) (l : List UInt8) (k : Nat) (h : k < l.length) : encs f u s (l.take (k + 1)) 0 = encs f u s (l.take k) 0 ++ encOf (l[k].toNat % 4) (f k) u s := by
  rw [List.take_succ_eq_append_getElem h, encs_append]
  simp only [encs, List.append_nil, Nat.zero_add]
  rw [List.length_take, Nat.min_eq_left (by omega)]
theorem encs_drop (f : Nat → Int) (u : Nat) (s : ByteArray) (l : List UInt8) (k : Nat) (h : k < l.length) : encs f u s (l.drop k) k = encOf (l[k].toNat % 4) (f k) u s ++ encs f u s (l.drop (k + 1)) (k + 1) := by
  rw [List.drop_eq_getElem_cons h]
  rfl
theorem encOf_len (c : Nat) (z : Int) (u : Nat) (s : ByteArray) (hz : -9223372036854775808 ≤ z ∧ z ≤ 9223372036854775807) (hs : s.size ≤ 200) : (encOf c z u s).length ≤ 210 := by
  unfold encOf
  split
  · have := numB_len z hz.1 hz.2
    omega
  · split
    · rw [lenB_length]; omega
    · split
      · simp [boolB]
      · unfold textB
        have := numB_len (s.size : Int) (by omega) (by omega)
        have h3 : s.data.toList.length = s.size := rfl
        rw [List.length_append]
        omega
theorem encs_len (f : Nat → Int) (u : Nat) (s : ByteArray) (hf : ∀ i, -9223372036854775808 ≤ f i ∧ f i ≤ 9223372036854775807) (hs : s.size ≤ 200) : ∀ (l : List UInt8) (i : Nat), (encs f u s l i).length ≤ l.length * 210
  | [], _ => by simp [encs]
  | c :: t, i => by
    simp only [encs, List.length_append, List.length_cons]
    have h1 := encOf_len (c.toNat % 4) (f i) u s (hf i) hs
    have h2 := encs_len f u s hf hs t (i + 1)
    omega
/-- Bytes lie in no block of choices. -/
theorem BytesAre.codes {a : Option Addr} {l cl : List UInt8} {ca : Option Addr} {cc C at_ : Nat} {w w' : World} (h : BytesAre a l w) (hc : Codes cl ca cc C at_ w) (k : Kept C w w') : BytesAre a l w' := by
  intro i hi
  obtain ⟨b, off, h1, h2, h3⟩ := h i hi
  have hne : b ≠ C := by
    rintro rfl
    rw [Lib.cell_of_heap hc.here] at h3
    generalize off + i = j at h3
    match j, h3 with
    | 0, h3 => simp at h3
    | 1, h3 => simp at h3
    | j + 2, h3 => simp at h3
  refine ⟨b, off, h1, Nat.lt_of_lt_of_le h2 k.size, ?_⟩
  rw [← h3]
  exact World.cell?_of_block (w := w) (k.block b h2 hne)
theorem Src.codes {a : Option Addr} {l cl : List UInt8} {c : Nat} {ca : Option Addr} {cc C at_ : Nat} {w w' : World} (h : Src a l c w) (hc : Codes cl ca cc C at_ w) (k : Kept C w w') : Src a l c w' := ⟨h.nil, h.le, h.bytes.codes hc k⟩
theorem nextN_at (cl : List UInt8) (k n : Nat) (h : k < cl.length) : nextN cl k n = cl[k].toNat % n := by
  unfold nextN
  rw [if_pos h]
  simp [List.getD, h]
theorem even_two (z : Int) : ∃ v : Bool, decide (z % 2 = 0) = v ∧ (z.tmod 2 == 0) = v ∧ decide (z.tmod 2 = 0) = v := by
  have h : (z.tmod 2 = 0) = (z % 2 = 0) := by
    rw [eq_iff_iff]
    exact ⟨fun h => Int.emod_eq_zero_of_dvd (Int.dvd_of_tmod_eq_zero h), fun h => Int.tmod_eq_zero_of_dvd (Int.dvd_of_emod_eq_zero h)⟩
  refine ⟨decide (z % 2 = 0), rfl, ?_, ?_⟩
  · rw [Bool.eq_iff_iff]
    simp only [beq_iff_eq, decide_eq_true_eq, h]
  · simp only [h]
/-- What put returns. -/
def Puts (l : List UInt8) (cl : List UInt8) (ca : Option Addr) (cc C k : Nat) (w : World) (en : Ending) (w' : World) : Prop :=
  ∃ (a : Option Addr) (c : Nat), en = .returned (.slice a (l.length : Nat) c) ∧ Src a l c w' ∧ c ≤ 9223372036854775807 ∧ Codes cl ca cc C (k + 1) w' ∧ Kept C w w'
theorem puts_of {l : List UInt8} {cl : List UInt8} {ca : Option Addr} {cc C k : Nat} {w w1 : World} {en : Ending} {w' : World} (hc : Codes cl ca cc C (k + 1) w1) (hk : Kept C w w1) (h : MadeB l w1 en w') : Puts l cl ca cc C k w en w' := by
  obtain ⟨a, c, rfl, h1, h2, h3, h4, h5⟩ := h
  exact ⟨a, c, rfl, ⟨h1, h2, h4⟩, h3, hc.below h5, hk.trans (Kept.of_below h5)⟩
set_option maxHeartbeats 8000000 in
theorem put_any (a : Option Addr) (l : List UInt8) (cap : Nat) (cl : List UInt8) (ca : Option Addr) (cc C k : Nat) (z : Int) (u : Nat) (s : ByteArray) (w : World) (hl : l.length ≤ 900000) (hS : Src a l cap w) (hc : Codes cl ca cc C k w) (hcl : cl.length ≤ 1000000) (hk : k < cl.length)
    (hz : -9223372036854775808 ≤ z ∧ z ≤ 9223372036854775807) (hu : u < 18446744073709551616) (hs : s.size ≤ 200) :
    Calls Try.prog 25 #[.slice a (l.length : Nat) cap, .pointer (some ⟨C, 0, none⟩), .int .i64 z, .int .u64 (u : Nat), .string s] w (Puts (l ++ encOf (cl[k].toNat % 4) z u s) cl ca cc C k w) := by
  have hn := next_any cl ca cc C k 4 w hcl (by omega) (by omega) hc
  rw [if_pos hk, nextN_at cl k 4 hk] at hn
  have hq4 : cl[k].toNat % 4 < 4 := Nat.mod_lt _ (by omega)
  generalize cl[k].toNat % 4 = q at hn hq4 ⊢
  have hn2 : Hid (Calls Try.prog 37 #[.pointer (some ⟨C, 0, none⟩), .int .i64 4] w fun en w' => en = .returned (.int .i64 (q : Nat)) ∧ Kept C w w' ∧ Codes cl ca cc C (k + 1) w') := Lib.hid hn
  clear hn
  have hq : q = 0 ∨ q = 1 ∨ q = 2 ∨ q = 3 := by omega
  rcases hq with rfl | rfl | rfl | rfl
  · have hp := Lib.hid (fun W (h : Src a l cap W) => putNumber_any a l cap z W hl h hz.1 hz.2)
    have he : encOf 0 z u s = numB z := rfl
    rw [he]
    clear hz hu he
    go_enter Try.func25, Try.ntmps25
    go_wp2_with (first | (go_at_call 37; refine hn2.out.mono ?_; rintro en w1 ⟨rfl, hk1, hc1⟩; have hp1 := Lib.hid (hp.out w1 (hS.codes hc hk1))) | (go_at_call 10; refine hp1.out.mono ?_; intro en w2 hm; obtain ⟨a2, c2, rfl, hm2⟩ := puts_of hc1 hk1 hm; replace hm2 := Lib.hid hm2; clear hm))
    go_ret
    exact ⟨a2, c2, by simp, hm2.out⟩
  · have hp := Lib.hid (fun W (h : Src a l cap W) => putWord_any a l cap u W hl hu h)
    have he : encOf 1 z u s = lenB u := rfl
    rw [he]
    clear hz hu he
    go_enter Try.func25, Try.ntmps25
    go_wp2_with (first | (go_at_call 37; refine hn2.out.mono ?_; rintro en w1 ⟨rfl, hk1, hc1⟩; have hp1 := Lib.hid (hp.out w1 (hS.codes hc hk1))) | (go_at_call 12; refine hp1.out.mono ?_; intro en w2 hm; obtain ⟨a2, c2, rfl, hm2⟩ := puts_of hc1 hk1 hm; replace hm2 := Lib.hid hm2; clear hm))
    go_ret
    exact ⟨a2, c2, by simp, hm2.out⟩
  · obtain ⟨v, hv, hv1, hv2⟩ := even_two z
    have hp := Lib.hid (fun W (h : Src a l cap W) => putBool_any a l cap v W hl h)
    have he : encOf 2 z u s = boolB v := by rw [← hv]; rfl
    rw [he]
    clear hz hu he hv
    go_enter Try.func25, Try.ntmps25
    go_wp2_with (first | (go_at_call 37; refine hn2.out.mono ?_; rintro en w1 ⟨rfl, hk1, hc1⟩; have hp1 := Lib.hid (hp.out w1 (hS.codes hc hk1))) | (go_at_call 14; refine hp1.out.mono ?_; intro en w2 hm; obtain ⟨a2, c2, rfl, hm2⟩ := puts_of hc1 hk1 hm; replace hm2 := Lib.hid hm2; clear hm))
    go_ret
    exact ⟨a2, c2, by simp, hm2.out⟩
  · have hp := Lib.hid (fun W (h : Src a l cap W) => putText_any a l cap s W hl (by omega) h)
    have he : encOf 3 z u s = textB s := rfl
    rw [he]
    clear hz hu he
    go_enter Try.func25, Try.ntmps25
    go_wp2_with (first | (go_at_call 37; refine hn2.out.mono ?_; rintro en w1 ⟨rfl, hk1, hc1⟩; have hp1 := Lib.hid (hp.out w1 (hS.codes hc hk1))) | (go_at_call 16; refine hp1.out.mono ?_; intro en w2 hm; obtain ⟨a2, c2, rfl, hm2⟩ := puts_of hc1 hk1 hm; replace hm2 := Lib.hid hm2; clear hm))
    go_ret
    exact ⟨a2, c2, by simp, hm2.out⟩
theorem boolB_read (v : Bool) (t : List UInt8) : boolR (boolB v ++ t) 0 = (v, t, 0) := by
  cases v <;> rfl
theorem lenB_be (u : Nat) (hu : u < 18446744073709551616) : beN (lenB u) = u := by
  have h : ∀ k, k ≤ 8 → beN ((lenB u).take k) = u / 2 ^ (64 - 8 * k) := by
    intro k
    induction k with
    | zero => intro _; simp only [List.take_zero, Nat.mul_zero, Nat.sub_zero, Nat.reducePow]; show 0 = _; omega
    | succ k ih =>
      intro hk
      rw [lenB_take u k (by omega), beN_snoc, ih (by omega), UInt8.toNat_ofNat', show 64 - 8 * k = (56 - 8 * k) + 8 from by omega, show 64 - 8 * (k + 1) = 56 - 8 * k from by omega, Nat.pow_add, ← Nat.div_div_eq_div_mul]
      generalize u / 2 ^ (56 - 8 * k) = x
      omega
  have := h 8 (by omega)
  rw [List.take_of_length_le (by rw [lenB_length]; omega)] at this
  rw [this]
  simp
theorem wordB_read (u : Nat) (hu : u < 18446744073709551616) (t : List UInt8) : wordR (lenB u ++ t) 0 = (u, t, 0) := by
  have hl := lenB_length u
  unfold wordR takeR
  rw [if_pos rfl, if_pos (by rw [List.length_append]; omega), List.take_append_of_le_length (by omega), List.take_of_length_le (by omega), lenB_be u hu, List.drop_append_of_le_length (by omega), List.drop_eq_nil_of_le (by omega)]
  rfl
theorem numB_read (z : Int) (hz : -9223372036854775808 ≤ z ∧ z ≤ 9223372036854775807) (t : List UInt8) : numR (numB z ++ t) 0 = (z, t, 0) := by
  unfold numR
  rw [if_pos rfl, readG_zz z hz.1 hz.2, if_pos rfl, unz_zz, List.drop_left]
theorem textB_read (s : ByteArray) (hs : s.size ≤ 200) (t : List UInt8) : textR (s.size : Int) (textB s ++ t) 0 = (s, t, 0) := by
  have h3 : s.data.toList.length = s.size := rfl
  have hn : numR (textB s ++ t) 0 = ((s.size : Int), s.data.toList ++ t, 0) := by
    unfold textB
    rw [List.append_assoc]
    exact numB_read _ ⟨by omega, by omega⟩ _
  rw [textR_ok (n := s.size) hn (by omega) (by rw [List.length_append]; omega), List.take_append_of_le_length (by omega), List.take_of_length_le (by omega), List.drop_append_of_le_length (by omega), List.drop_eq_nil_of_le (by omega)]
  rfl
/-- What get returns. -/
def Gets (t : List UInt8) (cl : List UInt8) (ca : Option Addr) (cc D k lo R : Nat) (w : World) (en : Ending) (w' : World) : Prop :=
  en = .returned (.bool true) ∧ Rd t 0 lo R w' ∧ Codes cl ca cc D (k + 1) w' ∧ (∃ w1, Kept D w w1 ∧ Kept R w1 w')
set_option maxHeartbeats 8000000 in
theorem get_any (t : List UInt8) (cl : List UInt8) (ca : Option Addr) (cc D k lo R : Nat) (z : Int) (u : Nat) (s : ByteArray) (w : World) (hcl : cl.length ≤ 1000000) (hk : k < cl.length) (hD : D < lo) (hlo : lo ≤ R)
    (hz : -9223372036854775808 ≤ z ∧ z ≤ 9223372036854775807) (hu : u < 18446744073709551616) (hs : s.size ≤ 200) (hc : Codes cl ca cc D k w) (hca : ∀ b off, ca = some ⟨b, off, none⟩ → 0 < cl.length → b < D)
    (hr : Rd (encOf (cl[k].toNat % 4) z u s ++ t) 0 lo R w) :
    Calls Try.prog 26 #[.pointer (some ⟨R, 0, none⟩), .pointer (some ⟨D, 0, none⟩), .int .i64 z, .int .u64 (u : Nat), .string s] w (Gets t cl ca cc D k lo R w) := by
  have hn := next_any cl ca cc D k 4 w hcl (by omega) (by omega) hc
  rw [if_pos hk, nextN_at cl k 4 hk] at hn
  have hq4 : cl[k].toNat % 4 < 4 := Nat.mod_lt _ (by omega)
  generalize cl[k].toNat % 4 = q at hn hq4 hr
  have hn2 : Hid (Calls Try.prog 37 #[.pointer (some ⟨D, 0, none⟩), .int .i64 4] w fun en w' => en = .returned (.int .i64 (q : Nat)) ∧ Kept D w w' ∧ Codes cl ca cc D (k + 1) w') := Lib.hid hn
  have hfin : ∀ w1 w2, Kept D w w1 → Codes cl ca cc D (k + 1) w1 → Kept R w1 w2 → Rd t 0 lo R w2 → Gets t cl ca cc D k lo R w (.returned (.bool true)) w2 := fun w1 w2 h1 h2 h3 h4 =>
    ⟨rfl, h4, h2.kept h3 (by omega) (fun b off e0 hl => by have := hca b off e0 hl; omega), w1, h1, h3⟩
  have hrk : ∀ w1, Kept D w w1 → Rd (encOf q z u s ++ t) 0 lo R w1 := fun w1 h1 => hr.kept h1 (.inl hD) hlo
  clear hn hr
  replace hfin := Lib.hid hfin
  have hq : q = 0 ∨ q = 1 ∨ q = 2 ∨ q = 3 := by omega
  rcases hq with rfl | rfl | rfl | rfl
  · have hp : Hid (∀ w1, Kept D w w1 → Calls Try.prog 29 #[.pointer (some ⟨R, 0, none⟩)] w1 fun en w' => en = .returned (.int .i64 z) ∧ Kept R w1 w' ∧ Rd t 0 lo R w') := Lib.hid (fun w1 h1 => by
      have := number_any (hrk w1 h1)
      rw [show encOf 0 z u s = numB z from rfl, numB_read z hz] at this
      exact this)
    clear hz hu hrk
    go_enter Try.func26, Try.ntmps26
    go_wp2_with (first | (go_at_call 37; refine hn2.out.mono ?_; rintro en w1 ⟨rfl, hk1, hc1⟩; have hp1 := Lib.hid (hp.out w1 hk1)) | (go_at_call 29; refine hp1.out.mono ?_; rintro en w2 ⟨rfl, hk2, hr2⟩; have hG := Lib.hid (hfin.out w1 w2 hk1 hc1 hk2 hr2)))
    go_ret
    exact hG.out
  · have hp : Hid (∀ w1, Kept D w w1 → Calls Try.prog 30 #[.pointer (some ⟨R, 0, none⟩)] w1 fun en w' => en = .returned (.int .u64 (u : Nat)) ∧ Kept R w1 w' ∧ Rd t 0 lo R w') := Lib.hid (fun w1 h1 => by
      have := word_any (hrk w1 h1)
      rw [show encOf 1 z u s = lenB u from rfl, wordB_read u hu] at this
      exact this)
    clear hz hu hrk
    go_enter Try.func26, Try.ntmps26
    go_wp2_with (first | (go_at_call 37; refine hn2.out.mono ?_; rintro en w1 ⟨rfl, hk1, hc1⟩; have hp1 := Lib.hid (hp.out w1 hk1)) | (go_at_call 30; refine hp1.out.mono ?_; rintro en w2 ⟨rfl, hk2, hr2⟩; have hG := Lib.hid (hfin.out w1 w2 hk1 hc1 hk2 hr2)))
    go_ret
    exact hG.out
  · obtain ⟨v, hv, hv1, hv2⟩ := even_two z
    have hp : Hid (∀ w1, Kept D w w1 → Calls Try.prog 39 #[.pointer (some ⟨R, 0, none⟩)] w1 fun en w' => en = .returned (.bool v) ∧ Kept R w1 w' ∧ Rd t 0 lo R w') := Lib.hid (fun w1 h1 => by
      have := bool_any (hrk w1 h1)
      rw [show encOf 2 z u s = boolB v from by rw [← hv]; rfl, boolB_read v] at this
      exact this)
    clear hz hu hrk hv
    go_enter Try.func26, Try.ntmps26
    go_wp2_with (first | (go_at_call 37; refine hn2.out.mono ?_; rintro en w1 ⟨rfl, hk1, hc1⟩; have hp1 := Lib.hid (hp.out w1 hk1)) | (go_at_call 39; refine hp1.out.mono ?_; rintro en w2 ⟨rfl, hk2, hr2⟩; have hG := Lib.hid (hfin.out w1 w2 hk1 hc1 hk2 hr2)))
    go_ret
    exact hG.out
  · have hp : Hid (∀ w1, Kept D w w1 → Calls Try.prog 31 #[.pointer (some ⟨R, 0, none⟩), .int .i64 (s.size : Nat)] w1 fun en w' => en = .returned (.string s) ∧ Kept R w1 w' ∧ Rd t 0 lo R w') := Lib.hid (fun w1 h1 => by
      have := text_any (s.size : Int) (hrk w1 h1)
      rw [show encOf 3 z u s = textB s from rfl, textB_read s hs] at this
      exact this)
    clear hz hu hrk
    go_enter Try.func26, Try.ntmps26
    go_wp2_with (first | (go_at_call 37; refine hn2.out.mono ?_; rintro en w1 ⟨rfl, hk1, hc1⟩; have hp1 := Lib.hid (hp.out w1 hk1)) | (go_at_call 31; refine hp1.out.mono ?_; rintro en w2 ⟨rfl, hk2, hr2⟩; have hG := Lib.hid (hfin.out w1 w2 hk1 hc1 hk2 hr2)))
    go_ret
    exact hG.out
end Go.Proofs.Ytkmnmddengnjlaa
