/- TextNumbers: for every number, text.Number is its decimal form, and it is read as it was, or out of range. Holds for every int; the listed package-level variables are as the program's text lays them. -/
import Derived.Test.YtfdmeinfjfmnlaaDoorAwake
namespace Go.Proofs.YtfdmeinfjfmnlaaDoor
open Go Go.RowKit

theorem isD_dgt (k : Nat) (h : k < 10) : isD (UInt8.ofNat (48 + k)) = true := by
  unfold isD
  rw [UInt8.toNat_ofNat']
  simp
  omega
theorem dgt_val (k : Nat) (h : k < 10) : (UInt8.ofNat (48 + k)).toNat - 48 = k := by
  rw [UInt8.toNat_ofNat']
  omega
theorem decDigits_all : ∀ u : Nat, (Lib.decDigits u).all isD = true ∧ valN (Lib.decDigits u) = u ∧ ((Lib.decDigits u).head? = some 48 ↔ u = 0) ∧ Lib.decDigits u ≠ [] := by
  intro u
  induction u using Nat.strongRecOn with
  | _ u ih =>
    rw [Lib.decDigits]
    split
    · rename_i hlt
      refine ⟨by rw [List.all_cons, isD_dgt u hlt]; rfl, ?_, ?_, by simp⟩
      · show 10 * 0 + ((UInt8.ofNat (48 + u)).toNat - 48) = u
        rw [dgt_val u hlt]; omega
      · simp only [List.head?_cons, Option.some.injEq]
        rw [← UInt8.toNat_inj, UInt8.toNat_ofNat']
        simp only [UInt8.reduceToNat]
        omega
    · rename_i hge
      obtain ⟨h1, h2, h3, h4⟩ := ih (u / 10) (by omega)
      refine ⟨by rw [List.all_append, h1, List.all_cons, isD_dgt _ (by omega)]; rfl, ?_, ?_, by simp⟩
      · rw [valN_snoc, h2, dgt_val _ (by omega)]; omega
      · rw [List.head?_append]
        have : ((Lib.decDigits (u / 10)).head?.or ([UInt8.ofNat (48 + u % 10)] : List UInt8).head?) = (Lib.decDigits (u / 10)).head? := by
          cases hd : Lib.decDigits (u / 10) with
          | nil => exact absurd hd h4
          | cons a t => rfl
        rw [this, h3]
        omega

/-- The decimal form of a number is read as the number, or is out of range. -/
theorem parse_itoa (n : Int) : parseV ⟨(Lib.itoa n).toArray⟩ = if -1099511627776 ≤ n ∧ n ≤ 1099511627776 then numE n 0 else numE 0 3 := by
  obtain ⟨h1, h2, h3, h4⟩ := decDigits_all n.natAbs
  unfold parseV
  show parseD (decide (Lib.itoa n = [48])) (Lib.hasPrefix (Lib.itoa n) [45]) (Lib.trimPrefix (Lib.itoa n) [45]) = _
  have hd45 : ∀ t, Lib.decDigits n.natAbs ≠ 45 :: t := by
    intro t e
    rw [e, List.all_cons] at h1
    have : isD 45 = false := by decide
    rw [this] at h1
    cases h1
  by_cases hn : n < 0
  · have hi : Lib.itoa n = 45 :: Lib.decDigits n.natAbs := by unfold Lib.itoa; rw [if_pos hn]
    have hp : Lib.hasPrefix (45 :: Lib.decDigits n.natAbs) [45] = true := by simp [Lib.hasPrefix, List.isPrefixOf]
    have ht : Lib.trimPrefix (45 :: Lib.decDigits n.natAbs) [45] = Lib.decDigits n.natAbs := by unfold Lib.trimPrefix; rw [if_pos hp]; rfl
    rw [hi, hp, ht, decide_eq_false (by simp)]
    have hh : ¬ ((Lib.decDigits n.natAbs).head? = some 48 ∧ (false : Bool) = false) := by
      rintro ⟨h, _⟩
      have := h3.1 h
      omega
    by_cases hb : 1099511627776 < valN (Lib.decDigits n.natAbs)
    · rw [parseD_big _ _ _ h4 hh h1 hb, if_neg (by rw [h2] at hb; omega)]
    · rw [parseD_ok _ _ _ h4 hh h1 hb, if_pos rfl, if_pos (show -1099511627776 ≤ n ∧ n ≤ 1099511627776 by rw [h2] at hb; omega), h2, show -(n.natAbs : Int) = n by omega]
  · have hi : Lib.itoa n = Lib.decDigits n.natAbs := by unfold Lib.itoa; rw [if_neg hn, show n.toNat = n.natAbs by omega]
    have hp : Lib.hasPrefix (Lib.decDigits n.natAbs) [45] = false := by
      cases hd : Lib.decDigits n.natAbs with
      | nil => rfl
      | cons a t =>
        have : ¬ a = 45 := fun e => hd45 t (by rw [hd, e])
        simp [Lib.hasPrefix, List.isPrefixOf]
        exact fun e => this e.symm
    have ht : Lib.trimPrefix (Lib.decDigits n.natAbs) [45] = Lib.decDigits n.natAbs := by unfold Lib.trimPrefix; rw [if_neg (by rw [hp]; simp)]
    rw [hi, hp, ht]
    have hh : ¬ ((Lib.decDigits n.natAbs).head? = some 48 ∧ decide (Lib.decDigits n.natAbs = [48]) = false) := by
      rintro ⟨h, h'⟩
      have h0 := h3.1 h
      rw [h0] at h'
      rw [Lib.decDigits_one (by omega)] at h'
      simp at h'
    by_cases hb : 1099511627776 < valN (Lib.decDigits n.natAbs)
    · rw [parseD_big _ _ _ h4 hh h1 hb, if_neg (by rw [h2] at hb; omega)]
    · rw [parseD_ok _ _ _ h4 hh h1 hb, if_neg (show ¬ (false : Bool) = true by simp), if_pos (show -1099511627776 ≤ n ∧ n ≤ 1099511627776 by rw [h2] at hb; omega), h2, show (n.natAbs : Int) = n by omega]

set_option maxHeartbeats 4000000 in
theorem numbers_walk (n : Int) (w : World) (E : Env w) (hb : -9223372036854775808 ≤ n ∧ n ≤ 9223372036854775807) :
    Calls Tryd.prog 8 #[.int .i64 n] w fun e w' => e = .returned (.bool true) ∧ Below w.heap.size w w' := by
  obtain ⟨h0, h1⟩ := hb
  have hp : ∀ W, Calls Tryd.prog 23 #[.string ⟨(Lib.itoa n).toArray⟩] W fun e w' => e = .returned (if -1099511627776 ≤ n ∧ n ≤ 1099511627776 then numE n 0 else numE 0 3) ∧ Below W.heap.size W w' := fun W => by
    have := parse_any ⟨(Lib.itoa n).toArray⟩ W
    rw [parse_itoa] at this
    exact this
  have hnum : ∀ W, Env W → Calls Tryd.prog 22 #[.int .i64 n] W fun e w' => e = .returned (.string ⟨(Lib.itoa n).toArray⟩) ∧ Below W.heap.size W w' := fun W h => number_any n W h0 h1 h.pow
  have href : ∀ W, Calls Tryd.prog 24 #[.int .i64 n] W fun e w' => e = .returned (.string ⟨(Lib.itoa n).toArray⟩) ∧ W = w' := fun W => refNumber_any n W h0 h1
  have B := Below.refl w.heap.size w
  have hcases : (-1099511627776 ≤ n ∧ n ≤ 1099511627776) ∨ n < -1099511627776 ∨ (-1099511627776 ≤ n ∧ 1099511627776 < n) := by omega
  replace h0 := Lib.hid h0
  replace h1 := Lib.hid h1
  generalize (⟨(Lib.itoa n).toArray⟩ : ByteArray) = s at hp hnum href
  have hse : (s.toList == s.toList) = true := by simp
  rcases hcases with ⟨a, b⟩ | a | ⟨a, b⟩
  · have hp' : ∀ W, Calls Tryd.prog 23 #[.string s] W fun e w' => e = .returned (.tuple #[.int .i64 n, .int .i64 0]) ∧ Below W.heap.size W w' := fun W => by
      have := hp W
      rw [if_pos ⟨a, b⟩] at this
      exact this
    clear hp
    go_enter Tryd.func8, Tryd.ntmps8
    go_wp2_with (first
      | (go_at_call 10; refine (awake_any _ E).mono ?_; rintro e W ⟨rfl, hb⟩; replace E := E.below hb; replace B := B.trans (hb.mono B.size); clear hb)
      | (go_at_call 22; refine (hnum _ E).mono ?_; rintro e W ⟨rfl, hb⟩; replace E := E.below hb; replace B := B.trans (hb.mono B.size); clear hb)
      | (go_at_call 23; refine (hp' _).mono ?_; rintro e W ⟨rfl, hb⟩; replace E := E.below hb; replace B := B.trans (hb.mono B.size); clear hb)
      | (go_at_call 24; refine (href _).mono ?_; rintro e W ⟨rfl, rfl⟩))
    go_ret
    exact ⟨rfl, B⟩
  all_goals
    have hp' : ∀ W, Calls Tryd.prog 23 #[.string s] W fun e w' => e = .returned (.tuple #[.int .i64 0, .int .i64 3]) ∧ Below W.heap.size W w' := fun W => by
      have := hp W
      rw [if_neg (by omega)] at this
      exact this
    clear hp
    go_enter Tryd.func8, Tryd.ntmps8
    go_wp2_with (first
      | (go_at_call 10; refine (awake_any _ E).mono ?_; rintro e W ⟨rfl, hb⟩; replace E := E.below hb; replace B := B.trans (hb.mono B.size); clear hb)
      | (go_at_call 22; refine (hnum _ E).mono ?_; rintro e W ⟨rfl, hb⟩; replace E := E.below hb; replace B := B.trans (hb.mono B.size); clear hb)
      | (go_at_call 23; refine (hp' _).mono ?_; rintro e W ⟨rfl, hb⟩; replace E := E.below hb; replace B := B.trans (hb.mono B.size); clear hb)
      | (go_at_call 24; refine (href _).mono ?_; rintro e W ⟨rfl, rfl⟩))
    go_ret
    exact ⟨rfl, B⟩
end Go.Proofs.YtfdmeinfjfmnlaaDoor
