/- Contracts of the package's reader: atMost, Count, Text, Bool, Word. -/
import Derived.Test.YtkmnmddengnjlaaWRead
namespace Go.Proofs.Ytkmnmddengnjlaa
open Go Go.RowKit

/-- What a read returns and leaves. -/
def Done (v : Value) (l : List UInt8) (e : Int) (lo R : Nat) (w : World) (en : Ending) (w' : World) : Prop := en = .returned v ∧ Kept R w w' ∧ Rd l e lo R w'
theorem failR_any {l : List UInt8} {e : Int} {lo R : Nat} {w : World} (x : Int) (hx : 0 ≤ x ∧ x ≤ 1000) (h : Rd l e lo R w) :
    Calls Try.prog 44 #[.pointer (some ⟨R, 0, none⟩), .int .i64 x] w (Done (.tuple #[]) l (failR x e) lo R w) := by
  obtain ⟨a, c, l', h, hl⟩ := h
  by_cases he : e = 0
  · subst he
    obtain rfl := hl rfl
    exact (failR_ok x hx h).mono fun _ _ ⟨h1, h2, h3⟩ => ⟨h1, h2, h3.rd⟩
  · rw [show failR x e = e from if_neg he]
    exact (failR_err x h he).mono fun _ _ ⟨h1, h2⟩ => ⟨h1, h2 ▸ Kept.refl _ _, a, c, l', h2 ▸ h, hl⟩
theorem numR_range (l : List UInt8) (e : Int) : -9223372036854775808 ≤ (numR l e).1 ∧ (numR l e).1 ≤ 9223372036854775807 := by
  unfold numR
  rcases readG_fits l 0 0 (by omega) (by decide) with ⟨x, hx, hg⟩ | ⟨v, n, hg, hv, _⟩
  · rw [hg]
    split
    · split
      · rename_i h1 h2
        exfalso
        simp at h2
        omega
      · simp
    · simp
  · rw [hg]
    split
    · exact unz_range v hv
    · simp
theorem numR_err (l : List UInt8) (e : Int) (h : (numR l e).2.2 ≠ 0) : (numR l e).1 = 0 := by
  unfold numR at h ⊢
  split
  · split
    · rename_i h1 h2
      rw [if_pos h1, if_pos h2] at h
      exact absurd rfl h
    · rfl
  · rfl
set_option maxHeartbeats 8000000 in
theorem atMost_any {l : List UInt8} {e : Int} {lo R : Nat} {w : World} (most x : Int) (hx : 0 ≤ x ∧ x ≤ 1000) (h : Rd l e lo R w) :
    Calls Try.prog 49 #[.pointer (some ⟨R, 0, none⟩), .int .i64 most, .int .i64 x] w (Done (.int .i64 ((atR most x l e).1 : Nat)) (atR most x l e).2.1 (atR most x l e).2.2 lo R w) := by
  have hn := number_any h
  have hr := numR_range l e
  have hz := numR_err l e
  have hA : atR most x l e = if (numR l e).2.2 = 0 then (if (numR l e).1 < 0 then (0, (numR l e).2.1, 3) else if most < (numR l e).1 then (0, (numR l e).2.1, x) else ((numR l e).1.toNat, (numR l e).2.1, 0)) else (0, (numR l e).2.1, (numR l e).2.2) := rfl
  generalize (numR l e).1 = n at hn hr hz hA
  generalize (numR l e).2.1 = l1 at hn hA
  generalize (numR l e).2.2 = e1 at hn hz hA
  clear h
  by_cases h1 : n < 0
  · have he : e1 = 0 := by
      by_cases he : e1 = 0
      · exact he
      · have := hz he
        omega
    rw [if_pos he, if_pos h1] at hA
    rw [hA]
    subst he
    have hF := fun w' (h : Rd l1 0 lo R w') => failR_any 3 (by omega) h
    clear hA hz hr
    replace hn := Lib.hid hn
    replace hF := Lib.hid hF
    go_enter Try.func49, Try.ntmps49
    go_wp2_with (first | (go_at_call 29; refine hn.out.mono ?_; rintro en w1 ⟨rfl, hk, hrd⟩) | (go_at_call 44; refine (hF.out _ hrd).mono ?_; rintro en w2 ⟨rfl, hk2, hrd2⟩))
    go_ret
    exact ⟨rfl, hk.trans hk2, hrd2⟩
  · by_cases h2 : most < n
    · have hA2 : atR most x l e = (0, l1, failR x e1) := by
        rw [hA]
        unfold failR
        split
        · first | rfl | rw [if_neg h1, if_pos h2]
        · rfl
      rw [hA2]
      have hF := fun w' (h : Rd l1 e1 lo R w') => failR_any x hx h
      clear hA hA2 hz hr
      replace hn := Lib.hid hn
      replace hF := Lib.hid hF
      go_enter Try.func49, Try.ntmps49
      go_wp2_with (first | (go_at_call 29; refine hn.out.mono ?_; rintro en w1 ⟨rfl, hk, hrd⟩) | (go_at_call 44; refine (hF.out _ hrd).mono ?_; rintro en w2 ⟨rfl, hk2, hrd2⟩))
      go_ret
      exact ⟨rfl, hk.trans hk2, hrd2⟩
    · have hA2 : atR most x l e = (n.toNat, l1, e1) := by
        rw [hA]
        split
        · rename_i he
          first | rw [if_neg h1, if_neg h2, he] | rw [he]
        · rename_i he
          rw [hz he]
          rfl
      rw [hA2]
      obtain ⟨m, rfl⟩ : ∃ m : Nat, n = (m : Int) := ⟨n.toNat, by omega⟩
      rw [Int.toNat_natCast]
      clear hA hA2 hz hr
      replace hn := Lib.hid hn
      go_enter Try.func49, Try.ntmps49
      go_wp2_with (go_at_call 29; refine hn.out.mono ?_; rintro en w1 ⟨rfl, hk, hrd⟩)
      go_ret
      exact ⟨rfl, hk, hrd⟩
theorem count_any {l : List UInt8} {e : Int} {lo R : Nat} {w : World} (most : Int) (h : Rd l e lo R w) :
    Calls Try.prog 42 #[.pointer (some ⟨R, 0, none⟩), .int .i64 most] w (Done (.int .i64 ((atR most 5 l e).1 : Nat)) (atR most 5 l e).2.1 (atR most 5 l e).2.2 lo R w) := by
  have hA := Lib.hid (atMost_any most 5 (by omega) h)
  generalize atR most 5 l e = t at hA ⊢
  clear h
  go_enter Try.func42, Try.ntmps42
  go_wp2_with (go_at_call 49; refine hA.out.mono ?_; rintro en w1 ⟨rfl, hk, hrd⟩)
  go_ret
  exact ⟨rfl, hk, hrd⟩
theorem BIn.string {lo hi : Nat} {a : Option Addr} {l : List UInt8} {w : World} (h : BIn lo hi a l w) (c : Nat) :
    (convert 22 9 (.slice a (l.length : Nat) c)).run Try.prog w = .ok (.string ⟨l.toArray⟩) w := by
  cases l with
  | nil =>
    show (convert 22 9 (.slice a 0 c)).run Try.prog w = _
    cases a with
    | none =>
      rw [run_convert_bytes_string w _ _ _ none 0 c Try.underlying22 Try.underlying5 Try.underlying9]
      simp [Conv.bytesToString]
      rfl
    | some p => exact run_convert_bytes_back w _ _ _ p c [] Try.underlying22 Try.underlying5 Try.underlying9 fun j hj => by simp at hj
  | cons x t =>
    obtain ⟨b, off, rfl, _⟩ := h.at_ 0 (by simp)
    refine run_convert_bytes_back w _ _ _ ⟨b, off, none⟩ c (x :: t) Try.underlying22 Try.underlying5 Try.underlying9 fun j hj => ?_
    obtain ⟨b', off', he, _, _, hc⟩ := h.at_ j hj
    cases he
    rw [add_off]
    exact hc
/-- What take returns and leaves, in parts. -/
def TakenA (L l2 : List UInt8) (e2 : Int) (lo R : Nat) (w : World) (en : Ending) (w' : World) : Prop :=
  ∃ (a : Option Addr) (c : Nat), en = .returned (.slice a (L.length : Nat) c) ∧ BIn lo R a L w' ∧ L.length ≤ c ∧ Kept R w w' ∧ Rd l2 e2 lo R w'
theorem takeA {l : List UInt8} {e : Int} {lo R : Nat} {w : World} (n : Nat) (h : Rd l e lo R w) {L l2 : List UInt8} {e2 : Int} (ht : takeR n l e = (L, l2, e2)) :
    Calls Try.prog 48 #[.pointer (some ⟨R, 0, none⟩), .int .i64 (n : Nat)] w (TakenA L l2 e2 lo R w) := by
  have := take_any n h
  unfold Taken at this
  rw [ht] at this
  exact this
set_option maxHeartbeats 4000000 in
theorem text_any {l : List UInt8} {e : Int} {lo R : Nat} {w : World} (most : Int) (h : Rd l e lo R w) :
    Calls Try.prog 31 #[.pointer (some ⟨R, 0, none⟩), .int .i64 most] w (Done (.string (textR most l e).1) (textR most l e).2.1 (textR most l e).2.2 lo R w) := by
  have hA := atMost_any most 4 (by omega) h
  obtain ⟨n, l1, e1, hx⟩ : ∃ n l1 e1, atR most 4 l e = (n, l1, e1) := ⟨_, _, _, rfl⟩
  obtain ⟨L, l2, e2, ht⟩ : ∃ L l2 e2, takeR n l1 e1 = (L, l2, e2) := ⟨_, _, _, rfl⟩
  have hr : textR most l e = (⟨L.toArray⟩, l2, e2) := by
    unfold textR
    rw [hx]
    simp only []
    rw [ht]
  rw [hr]
  rw [hx] at hA
  have hT := Lib.hid (fun w' (h' : Rd l1 e1 lo R w') => takeA n h' ht)
  clear h hr hx ht
  replace hA := Lib.hid hA
  go_enter Try.func31, Try.ntmps31
  go_wp2_with (go_at_call 49; refine hA.out.mono ?_)
  rintro en w1 ⟨rfl, hk, hrd⟩
  go_wp2_with (go_at_call 48; refine (hT.out _ hrd).mono ?_)
  rintro en w2 ⟨a, c, rfl, hbi, hc, hk2, hrd2⟩
  have hs := hbi.string c
  go_wp2
  go_ret
  exact ⟨rfl, hk.trans hk2, hrd2⟩
set_option maxHeartbeats 4000000 in
theorem bool_any {l : List UInt8} {e : Int} {lo R : Nat} {w : World} (h : Rd l e lo R w) :
    Calls Try.prog 39 #[.pointer (some ⟨R, 0, none⟩)] w (Done (.bool (boolR l e).1) (boolR l e).2.1 (boolR l e).2.2 lo R w) := by
  obtain ⟨L, l2, e2, ht⟩ : ∃ L l2 e2, takeR 1 l e = (L, l2, e2) := ⟨_, _, _, rfl⟩
  have hT := Lib.hid (takeA 1 h ht)
  have hr : boolR l e = if e2 = 0 then (if 1 < (L.getD 0 0).toNat then (false, l2, 1) else ((L.getD 0 0).toNat == 1, l2, e2)) else (false, l2, e2) := by
    unfold boolR
    rw [ht]
  have hL : (e2 = 0 ∧ ∃ x, L = [x]) ∨ (e2 ≠ 0 ∧ L = []) := by
    unfold takeR at ht
    by_cases he : e = 0
    · rw [if_pos he] at ht
      by_cases h1 : 1 ≤ l.length
      · rw [if_pos h1] at ht
        injection ht with h2 h3
        injection h3 with h4 h5
        refine .inl ⟨h5.symm, l[0], ?_⟩
        rw [← h2]
        cases l with
        | nil => simp at h1
        | cons x t => rfl
      · rw [if_neg h1] at ht
        injection ht with h2 h3
        injection h3 with h4 h5
        exact .inr ⟨by omega, h2.symm⟩
    · rw [if_neg he] at ht
      injection ht with h2 h3
      injection h3 with h4 h5
      exact .inr ⟨by omega, h2.symm⟩
  rw [hr]
  clear h hr ht
  rcases hL with ⟨rfl, x, rfl⟩ | ⟨he2, rfl⟩
  · have hx := x.toNat_lt
    by_cases h1 : 1 < x.toNat
    · rw [if_pos rfl, if_pos (show 1 < ([x].getD 0 0).toNat from h1)]
      have hF := Lib.hid (fun w' (h' : Rd l2 0 lo R w') => failR_any 1 (by omega) h')
      have h1' : (1 : Int) < (x.toNat : Int) := by omega
      go_enter Try.func39, Try.ntmps39
      go_wp2_with (go_at_call 48; refine hT.out.mono ?_)
      rintro en w1 ⟨a, c, rfl, hbi, hc, hk, hrd⟩
      obtain ⟨b, off, rfl, _, _, hcell⟩ := hbi.at_ 0 (by simp)
      have hcell' : w1.cell? ⟨b, off, none⟩ = some (.int .u8 (x.toNat : Int)) := hcell
      clear hcell
      replace hbi := Lib.hid hbi
      go_wp2_with (go_at_call 44; refine (hF.out _ hrd).mono ?_; rintro en w2 ⟨rfl, hk2, hrd2⟩)
      go_ret
      exact ⟨rfl, hk.trans hk2, hrd2⟩
    · rw [if_pos rfl, if_neg (show ¬ 1 < ([x].getD 0 0).toNat from h1)]
      have h1' : ¬ (1 : Int) < (x.toNat : Int) := by omega
      have hb : (x.toNat == 1) = decide ((x.toNat : Int) = 1) := by
        rw [Bool.eq_iff_iff]
        simp
        omega
      show Calls _ _ _ _ (Done (.bool (x.toNat == 1)) l2 0 lo R w)
      rw [hb]
      clear hb
      go_enter Try.func39, Try.ntmps39
      go_wp2_with (go_at_call 48; refine hT.out.mono ?_)
      rintro en w1 ⟨a, c, rfl, hbi, hc, hk, hrd⟩
      obtain ⟨b, off, rfl, _, _, hcell⟩ := hbi.at_ 0 (by simp)
      have hcell' : w1.cell? ⟨b, off, none⟩ = some (.int .u8 (x.toNat : Int)) := hcell
      clear hcell
      replace hbi := Lib.hid hbi
      generalize (x.toNat : Int) = z at *
      go_wp2
      go_ret
      exact ⟨rfl, hk, hrd⟩
  · rw [if_neg he2]
    go_enter Try.func39, Try.ntmps39
    go_wp2_with (go_at_call 48; refine hT.out.mono ?_)
    rintro en w1 ⟨a, c, rfl, hbi, hc, hk, hrd⟩
    go_wp2
    go_ret
    exact ⟨rfl, hk, hrd⟩
end Go.Proofs.Ytkmnmddengnjlaa
