/- Contract of the document's reader: Text. -/
import Derived.Test.YtkmnmddengnjlaaWQWord
namespace Go.Proofs.Ytkmnmddengnjlaa
open Go Go.RowKit

theorem textR_err {l l1 : List UInt8} {e e1 : Int} {n : Int} {most : Int} (hn : numR l e = (n, l1, e1)) (he : e1 ≠ 0) : textR most l e = (⟨#[]⟩, l1, e1) := by
  have hA : atR most 4 l e = (0, l1, e1) := by unfold atR; rw [hn]; exact if_neg he
  unfold textR
  rw [hA]
  show (_, (takeR 0 l1 e1).2) = _
  rw [show takeR 0 l1 e1 = ([], l1, e1) from takeR1_err he 0]
theorem textR_neg {l l1 : List UInt8} {e : Int} {n : Int} {most : Int} (hn : numR l e = (n, l1, 0)) (h : n < 0) : textR most l e = (⟨#[]⟩, l1, 3) := by
  have hA : atR most 4 l e = (0, l1, 3) := by unfold atR; rw [hn]; exact (if_pos rfl).trans (if_pos h)
  unfold textR
  rw [hA]
  show (_, (takeR 0 l1 3).2) = _
  rw [show takeR 0 l1 3 = ([], l1, 3) from takeR1_err (by omega) 0]
theorem textR_long {l l1 : List UInt8} {e : Int} {n : Int} {most : Int} (hn : numR l e = (n, l1, 0)) (h : ¬ n < 0) (h2 : most < n) : textR most l e = (⟨#[]⟩, l1, 4) := by
  have hA : atR most 4 l e = (0, l1, 4) := by unfold atR; rw [hn]; exact (if_pos rfl).trans ((if_neg h).trans (if_pos h2))
  unfold textR
  rw [hA]
  show (_, (takeR 0 l1 4).2) = _
  rw [show takeR 0 l1 4 = ([], l1, 4) from takeR1_err (by omega) 0]
theorem textR_short {l l1 : List UInt8} {e : Int} {n : Nat} {most : Int} (hn : numR l e = ((n : Int), l1, 0)) (h2 : ¬ most < (n : Int)) (h3 : l1.length < n) : textR most l e = (⟨#[]⟩, l1, 16) := by
  have hA : atR most 4 l e = (n, l1, 0) := by unfold atR; rw [hn]; exact (if_pos rfl).trans ((if_neg (by omega)).trans ((if_neg h2).trans (by simp)))
  unfold textR
  rw [hA]
  show (_, (takeR n l1 0).2) = _
  rw [show takeR n l1 0 = ([], l1, 16) from (if_pos rfl).trans (if_neg (by omega))]
theorem textR_ok {l l1 : List UInt8} {e : Int} {n : Nat} {most : Int} (hn : numR l e = ((n : Int), l1, 0)) (h2 : ¬ most < (n : Int)) (h3 : n ≤ l1.length) : textR most l e = (⟨(l1.take n).toArray⟩, l1.drop n, 0) := by
  have hA : atR most 4 l e = (n, l1, 0) := by unfold atR; rw [hn]; exact (if_pos rfl).trans ((if_neg (by omega)).trans ((if_neg h2).trans (by simp)))
  unfold textR
  rw [hA]
  show ((⟨(takeR n l1 0).1.toArray⟩ : ByteArray), (takeR n l1 0).2) = _
  rw [show takeR n l1 0 = (l1.take n, l1.drop n, 0) from (if_pos rfl).trans (if_pos h3)]
/-- What is known behind the call of Number: the error e1, and on success the number n. -/
structure Read (a : Option Addr) (c : Nat) (b : List UInt8) (at_ : Nat) (n e1 : Int) (hi Q : Nat) (w : World) (en : Ending) (w' : World) : Prop where
  ret : en = .returned (.int .i64 n)
  kept : Kept Q w w'
  rq : RqR a c b at_ e1 hi Q w'
set_option maxHeartbeats 8000000 in
set_option maxRecDepth 100000 in
/-- Behind an error of Number: the place is set back. -/
theorem refText_bad {a : Option Addr} {c : Nat} {b : List UInt8} {at_ at2 : Nat} {e e1 : Int} {hi Q : Nat} {w : World} (most : Int) (h : RqR a c b at_ e hi Q w) (n : Int) (he : e1 ≠ 0)
    (hN : Calls Try.prog 32 #[.pointer (some ⟨Q, 0, none⟩)] w (Read a c b at2 n e1 hi Q w)) (l1 : List UInt8) :
    Calls Try.prog 41 #[.pointer (some ⟨Q, 0, none⟩), .int .i64 most] w (DoneQ (.string ⟨#[]⟩) l1 e1 hi Q w) := by
  have c1 := h.c1
  have hb : (e1 == 0) = false := by simp [he]
  have hle := h.at_le
  clear h
  replace hN := Lib.hid hN
  go_enter Try.func41, Try.ntmps41
  go_wp2_with (go_at_call 32; refine hN.out.mono ?_; rintro en w1 ⟨rfl, hk, hr1⟩; have d1 := hr1.c1; have d2 := hr1.c2; have df := hr1.f; have hs := Lib.hid (hr1.setAt at_ hle); replace hr1 := Lib.hid hr1)
  go_ret
  exact ⟨rfl, hk.setCell 1 _, hs.out.rq' he⟩
set_option maxHeartbeats 8000000 in
set_option maxRecDepth 100000 in
/-- A number that is no length: the error x, the place is set back. -/
theorem refText_fail {a : Option Addr} {c : Nat} {b : List UInt8} {at_ at2 : Nat} {hi Q : Nat} {w : World} (most : Int) (h : RqR a c b at_ 0 hi Q w) (n x : Int) (hx : (n < 0 ∧ x = 3) ∨ (¬ n < 0 ∧ most < n ∧ x = 4))
    (hN : Calls Try.prog 32 #[.pointer (some ⟨Q, 0, none⟩)] w (Read a c b at2 n 0 hi Q w)) (l1 : List UInt8) :
    Calls Try.prog 41 #[.pointer (some ⟨Q, 0, none⟩), .int .i64 most] w (DoneQ (.string ⟨#[]⟩) l1 x hi Q w) := by
  have c1 := h.c1
  have hle := h.at_le
  have hF := Lib.hid (fun (W : World) (y : Int) (hy : 0 ≤ y ∧ y ≤ 1000) (hr : RqR a c b at2 0 hi Q W) => failQ_ok y hy hr)
  clear h
  replace hN := Lib.hid hN
  rcases hx with ⟨h1, rfl⟩ | ⟨h1, h2, rfl⟩
  · go_enter Try.func41, Try.ntmps41
    go_wp2_with (first | (go_at_call 32; refine hN.out.mono ?_; rintro en w1 ⟨rfl, hk, hr1⟩; have d1 := hr1.c1; have d2 := hr1.c2; have hF1 := Lib.hid (hF.out w1 3 (by omega) hr1); replace hr1 := Lib.hid hr1) | (go_at_call 45; refine hF1.out.mono ?_; rintro en w2 ⟨rfl, hk2, hr2⟩; have e1 := hr2.c1; have ef := hr2.f; have hs := Lib.hid (hr2.setAt at_ hle); replace hr2 := Lib.hid hr2))
    go_ret
    exact ⟨rfl, (hk.trans hk2).setCell 1 _, hs.out.rq' (by omega)⟩
  · go_enter Try.func41, Try.ntmps41
    go_wp2_with (first | (go_at_call 32; refine hN.out.mono ?_; rintro en w1 ⟨rfl, hk, hr1⟩; have d1 := hr1.c1; have d2 := hr1.c2; have hF1 := Lib.hid (hF.out w1 4 (by omega) hr1); replace hr1 := Lib.hid hr1) | (go_at_call 45; refine hF1.out.mono ?_; rintro en w2 ⟨rfl, hk2, hr2⟩; have e1 := hr2.c1; have ef := hr2.f; have hs := Lib.hid (hr2.setAt at_ hle); replace hr2 := Lib.hid hr2))
    go_ret
    exact ⟨rfl, (hk.trans hk2).setCell 1 _, hs.out.rq' (by omega)⟩
set_option maxHeartbeats 8000000 in
set_option maxRecDepth 100000 in
/-- A length beyond the end. -/
theorem refText_short {a : Option Addr} {c : Nat} {b : List UInt8} {at_ at2 : Nat} {hi Q : Nat} {w : World} (most : Int) (h : RqR a c b at_ 0 hi Q w) (n : Nat) (hm : ¬ most < (n : Int)) (hn : b.length < at2 + n) (h2 : at2 ≤ b.length)
    (hN : Calls Try.prog 32 #[.pointer (some ⟨Q, 0, none⟩)] w (Read a c b at2 n 0 hi Q w)) (l1 : List UInt8) :
    Calls Try.prog 41 #[.pointer (some ⟨Q, 0, none⟩), .int .i64 most] w (DoneQ (.string ⟨#[]⟩) l1 16 hi Q w) := by
  have c1 := h.c1
  have hle := h.at_le
  have hsm := h.small
  have hF := Lib.hid (fun (W : World) (hr : RqR a c b at2 0 hi Q W) => failQ_ok 16 (by omega) hr)
  have hgt : (b.length : Int) - (at2 : Int) < (n : Int) := by omega
  clear h
  replace hN := Lib.hid hN
  replace hle := Lib.hid hle
  obtain ⟨m, hm2⟩ : ∃ m, b.length = m := ⟨_, rfl⟩
  rw [hm2] at hsm hgt h2
  replace hm2 := Lib.hid hm2
  clear hn
  go_enter Try.func41, Try.ntmps41
  go_upto_region 10 with (go_at_call 32; refine hN.out.mono ?_; rintro en w1 ⟨rfl, hk, hr1⟩; have d0 := hr1.c0; rw [hm2.out] at d0; have d1 := hr1.c1; have d2 := hr1.c2; have hF1 := Lib.hid (hF.out w1.drew hr1.drew); replace hr1 := Lib.hid hr1)
  go_region
  all_goals
    go_wp2_with (go_at_call 45; refine hF1.out.mono ?_; rintro en w2 ⟨rfl, hk2, hr2⟩; have e1 := hr2.c1; have ef := hr2.f; have hs := Lib.hid (hr2.setAt at_ hle.out); replace hr2 := Lib.hid hr2)
    go_ret
    exact ⟨rfl, (hk.drew.trans hk2).setCell 1 _, hs.out.rq' (by omega)⟩
set_option maxHeartbeats 8000000 in
set_option maxRecDepth 100000 in
theorem refText_good {bb off : Nat} {c : Nat} {b : List UInt8} {at_ at2 : Nat} {hi Q : Nat} {w : World} (most : Int) (h : RqR (some ⟨bb, off, none⟩) c b at_ 0 hi Q w) (n : Nat) (hm : ¬ most < (n : Int)) (hn : at2 + n ≤ b.length)
    (hN : Calls Try.prog 32 #[.pointer (some ⟨Q, 0, none⟩)] w (Read (some ⟨bb, off, none⟩) c b at2 n 0 hi Q w)) :
    Calls Try.prog 41 #[.pointer (some ⟨Q, 0, none⟩), .int .i64 most] w (DoneQ (.string ⟨((b.drop at2).take n).toArray⟩) ((b.drop at2).drop n) 0 hi Q w) := by
  have c1 := h.c1
  have hle := h.at_le
  have hsm := h.small
  have hcap := h.le
  have hgt : ¬ (b.length : Int) - (at2 : Int) < (n : Int) := by omega
  have hfit : (at2 : Int) + (n : Int) ≤ (c : Int) := by omega
  have hfit2 : (at2 : Int) + (n : Int) ≤ (b.length : Int) := by omega
  have hlt : ((b.drop at2).take n).length = n := by rw [List.length_take, List.length_drop]; omega
  clear h
  replace hN := Lib.hid hN
  replace hle := Lib.hid hle
  obtain ⟨m, hm2⟩ : ∃ m, b.length = m := ⟨_, rfl⟩
  rw [hm2] at hsm hgt hcap hn hfit2
  replace hm2 := Lib.hid hm2
  rw [List.drop_drop]
  go_enter Try.func41, Try.ntmps41
  go_upto_region 10 with (go_at_call 32; refine hN.out.mono ?_; rintro en w1 ⟨rfl, hk, hr1⟩; have d0 := hr1.c0; rw [hm2.out] at d0; have d1 := hr1.c1; have d2 := hr1.c2; have df := hr1.f)
  have hs := (hr1.setAt (at2 + n) (by have := hm2.out; omega)).drew
  rw [show ((at2 + n : Nat) : Int) = (at2 : Int) + (n : Int) from by omega] at hs
  have e0 := hs.c0
  have e1 := hs.c1
  rw [hm2.out] at e0
  rw [show ((at2 + n : Nat) : Int) = (at2 : Int) + (n : Int) from by omega] at e1
  have hconv := ((hs.drew.bytes.cut at2 c (by have := hm2.out; omega)).take n).string (c - at2)
  rw [show ((b.drop at2).take n).length = at2 + n - at2 from by omega] at hconv
  have hconv2 := hconv
  rw [show at2 + n - at2 = n from by omega] at hconv2
  have hkx := (hk.setCell 1 (.int .i64 ((at2 : Int) + (n : Int)))).drew
  replace hr1 := Lib.hid hr1
  have hsd := Lib.hid hs.drew
  replace hs := Lib.hid hs
  clear hlt
  go_region
  all_goals
    go_upto_region 4 with (fail)
    go_region
    all_goals
      go_wp2
      all_goals
        go_ret
        exact ⟨rfl, hkx.drew, hsd.out.rq⟩
theorem refRText_any {l : List UInt8} {e : Int} {hi Q : Nat} {w : World} (most : Int) (h : Rq l e hi Q w) :
    Calls Try.prog 41 #[.pointer (some ⟨Q, 0, none⟩), .int .i64 most] w (DoneQ (.string (textR most l e).1) (textR most l e).2.1 (textR most l e).2.2 hi Q w) := by
  obtain ⟨a, c, b, i, h, hl⟩ := h
  by_cases he : e = 0
  · subst he
    obtain rfl := hl rfl
    rcases readG_fits (b.drop i) 0 0 (by omega) (by decide) with ⟨x, hx, hg⟩ | ⟨v, n, hg, hv, hn0, hnl⟩
    · have hx0 : x ≠ 0 := by omega
      have hr : numR (b.drop i) 0 = (0, b.drop i, x) := by unfold numR; rw [if_pos rfl, hg, if_neg hx0]
      rw [textR_err hr hx0]
      have := refNumber_run h 0 0 x hg
      rw [if_neg hx0, if_neg hx0] at this
      exact refText_bad most h 0 hx0 (this.mono fun _ _ ⟨h1, h2, h3⟩ => ⟨h1, h2, h3⟩) _
    · have hr : numR (b.drop i) 0 = (unz v, b.drop (i + n), 0) := by unfold numR; rw [if_pos rfl, hg, if_pos rfl, List.drop_drop]
      have hN := refNumber_run h v n 0 hg
      rw [if_pos rfl, if_pos rfl] at hN
      have hN2 : Calls Try.prog 32 #[.pointer (some ⟨Q, 0, none⟩)] w (Read a c b (i + n) (unz v) 0 hi Q w) := hN.mono fun _ _ ⟨h1, h2, h3⟩ => ⟨h1, h2, h3⟩
      rw [List.length_drop] at hnl
      by_cases k1 : unz v < 0
      · rw [textR_neg hr k1]
        exact refText_fail most h _ 3 (.inl ⟨k1, rfl⟩) hN2 _
      · by_cases k2 : most < unz v
        · rw [textR_long hr k1 k2]
          exact refText_fail most h _ 4 (.inr ⟨k1, k2, rfl⟩) hN2 _
        · obtain ⟨u, hu⟩ : ∃ u : Nat, unz v = (u : Int) := ⟨(unz v).toNat, by omega⟩
          rw [hu] at hr hN2 k2
          by_cases k3 : u ≤ (b.drop (i + n)).length
          · rw [textR_ok hr k2 k3]
            rw [List.length_drop] at k3
            obtain ⟨bb, off, rfl, _⟩ := h.bytes.cell i (by omega)
            exact refText_good most h u k2 (by omega) hN2
          · rw [textR_short hr k2 (by omega)]
            rw [List.length_drop] at k3
            exact refText_short most h u k2 (by omega) (by omega) hN2 _
  · have hr : numR l e = (0, l, e) := if_neg he
    rw [textR_err hr he]
    exact refText_bad most h 0 he ((refNumber_err h he).mono fun _ _ ⟨h1, h2⟩ => ⟨h1, h2 ▸ Kept.refl _ _, h2 ▸ h⟩) l
end Go.Proofs.Ytkmnmddengnjlaa
