/- A list of fields is told by its frame; the fields of a row, put one behind the other. -/
import Derived.Test.YtiomdikompodfaaFlds
import Derived.IntWalk
namespace Go.Proofs.Ytiomdikompodfaa
open Go Go.RowKit

def decB (l : List UInt8) : Nat := l.foldl (fun a c => a * 256 + c.toNat) 0
theorem decB_lenB (n : Nat) (h : n < 18446744073709551616) : decB (lenB n) = n := by
  simp only [decB, lenB, List.range, List.range.loop, List.map_cons, List.map_nil, List.foldl_cons, List.foldl_nil, UInt8.toNat_ofNat']
  omega
theorem frameL_inj : ∀ (A D : List (List UInt8)), (∀ f ∈ A, f.length ≤ 100000) → (∀ f ∈ D, f.length ≤ 100000) → frameL A = frameL D → A = D
  | [], [], _, _, _ => rfl
  | [], g :: gs, _, _, h => by
    have := congrArg List.length h
    simp [frameL, lenB_length] at this
    omega
  | f :: fs, [], _, _, h => by
    have := congrArg List.length h
    simp [frameL, lenB_length] at this
  | f :: fs, g :: gs, hA, hD, h => by
    simp only [frameL, List.append_assoc] at h
    have h1 := (List.append_inj h (by rw [lenB_length, lenB_length])).1
    have h2 := (List.append_inj h (by rw [lenB_length, lenB_length])).2
    have hf := hA f (by simp)
    have hg := hD g (by simp)
    have hl : f.length = g.length := by
      have := congrArg decB h1
      rwa [decB_lenB _ (by omega), decB_lenB _ (by omega)] at this
    have h3 := List.append_inj h2 hl
    rw [h3.1, frameL_inj fs gs (fun x hx => hA x (by simp [hx])) (fun x hx => hD x (by simp [hx])) h3.2]
theorem bytes_inj (a b : List UInt8) (h : (⟨a.toArray⟩ : ByteArray) = ⟨b.toArray⟩) : a = b := by
  have := congrArg ByteArray.data h
  simpa using this
theorem flat_le (l : List (List UInt8)) (h : ∀ f ∈ l, f.length ≤ 300) : l.flatten.length ≤ l.length * 300 := by
  induction l with
  | nil => simp
  | cons f fs ih =>
    have h1 := h f (by simp)
    have h2 := ih fun g hg => h g (by simp [hg])
    simp only [List.flatten_cons, List.length_append, List.length_cons]
    omega
theorem flat_take (l : List (List UInt8)) (i : Nat) (h : i < l.length) : (l.take (i + 1)).flatten = (l.take i).flatten ++ l[i] := by
  rw [List.take_succ_eq_append_getElem h, List.flatten_append, List.flatten_cons, List.flatten_nil, List.append_nil]
theorem tmod_range (n : Int) (k : Nat) (hk : 0 < k) : -(k : Int) < n.tmod k ∧ n.tmod k < k := by
  have h1 := Int.lt_tmod_of_pos n (b := (k : Int)) (by omega)
  have h2 := Int.tmod_lt_of_pos n (b := (k : Int)) (by omega)
  omega
theorem place_of (z : Int) (N : Nat) (h : N ≤ 6000) : ∃ k : Nat, k ≤ N ∧ (wrap64 (wrap64 (z.tmod ((N : Int) + 1) + (N : Int)) + 1)).tmod ((N : Int) + 1) = (k : Int) := by
  have hr := tmod_range z (N + 1) (by omega)
  rw [Int.natCast_add, Int.natCast_one] at hr
  generalize z.tmod ((N : Int) + 1) = r at hr ⊢
  rw [IntWalk.wrap64_in (r + N) (by omega), IntWalk.wrap64_in (r + N + 1) (by omega)]
  obtain ⟨s, hs⟩ : ∃ s : Nat, r + (N : Int) + 1 = (s : Int) := ⟨(r + (N : Int) + 1).toNat, by omega⟩
  have hlt := Nat.mod_lt s (show 0 < N + 1 by omega)
  refine ⟨s % (N + 1), by omega, ?_⟩
  rw [hs, Int.tmod_eq_emod_of_nonneg (by omega), Int.natCast_emod, Int.natCast_add, Int.natCast_one]
theorem Own.shape2 {B : Nat} {v : Value} {l : List UInt8} {w : World} (h : Own B v l w) : (v = .slice none 0 0 ∧ l = []) ∨ ∃ g c, v = .slice (some ⟨g, 0, none⟩) (l.length : Nat) c ∧ l.length ≤ c ∧ BytesAre (some ⟨g, 0, none⟩) l w := by
  have hs := h.shape
  rcases h.2 with ⟨rfl, h0⟩ | ⟨g, cap, cur, rfl, hB, hg, hn, hc, hs', ht⟩
  · exact .inl ⟨rfl, List.length_eq_zero_iff.1 h0⟩
  · obtain ⟨a1, c1, he, _, hle, hb⟩ := hs
    cases he
    exact .inr ⟨g, cap, rfl, hle, hb⟩
theorem fields_made2 (a1 a2 : Option Addr) (c1 c2 n1 n2 : Nat) (f1 f2 : List UInt8) (w : World) (e1 : f1.length = n1) (e2 : f2.length = n2) (hn1 : a1 = none → c1 = 0) (hn2 : a2 = none → c2 = 0) (hc1 : n1 ≤ c1) (hc2 : n2 ≤ c2) (hb1 : BytesAre a1 f1 w) (hb2 : BytesAre a2 f2 w) :
    FieldsAre (some ⟨w.heap.size, 0, none⟩) [f1, f2] (w.alloc (.cells #[.slice a1 (n1 : Nat) c1, .slice a2 (n2 : Nat) c2] 23)) := by
  have hbl := (Below.refl w.heap.size w).alloc (Nat.le_refl _) (.cells #[.slice a1 (n1 : Nat) c1, .slice a2 (n2 : Nat) c2] 23)
  intro i hi
  match i, hi with
  | 0, _ =>
    refine ⟨_, 0, a1, c1, rfl, by simp, ?_, hn1, by rw [← e1] at hc1; exact hc1, hb1.below (Nat.le_refl _) hbl⟩
    rw [Lib.cell_of_heap (heap_alloc_new w _)]
    simp [e1]
  | 1, _ =>
    refine ⟨_, 0, a2, c2, rfl, by simp, ?_, hn2, by rw [← e2] at hc2; exact hc2, hb2.below (Nat.le_refl _) hbl⟩
    rw [Lib.cell_of_heap (heap_alloc_new w _)]
    simp [e2]
end Go.Proofs.Ytiomdikompodfaa
