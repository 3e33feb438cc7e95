/- Contract of the package's Word. -/
import Derived.Test.YtkmnmddengnjlaaWReads
namespace Go.Proofs.Ytkmnmddengnjlaa
open Go Go.RowKit

theorem beN_snoc (l : List UInt8) (x : UInt8) : beN (l ++ [x]) = beN l * 256 + x.toNat := by unfold beN; rw [List.foldl_append]; rfl
theorem beN_take (l : List UInt8) (k : Nat) (h : k < l.length) : beN (l.take (k + 1)) = beN (l.take k) * 256 + l[k].toNat := by
  rw [List.take_succ_eq_append_getElem h, beN_snoc]
theorem beN_lt (l : List UInt8) : ∀ k, k ≤ l.length → beN (l.take k) < 256 ^ k
  | 0, _ => by simp [beN]
  | k + 1, h => by
    have ih := beN_lt l k (by omega)
    have hx := l[k].toNat_lt
    rw [beN_take l k (by omega), Nat.pow_succ]
    omega
theorem or_byte (v x : Nat) (hv : v < 72057594037927936) (hx : x < 256) : bits .or .u64 (IntKind.u64.wrap ((v : Int) * 256)) (x : Int) = ((v * 256 + x : Nat) : Int) := by
  have h := or_sum x v 8 (by omega) (by omega)
  have e : IntKind.u64.wrap ((v : Int) * 256) = ((UInt64.ofNat (v * 256)).toNat : Int) := by
    rw [show ((v : Int) * 256) = ((v * 256 : Nat) : Int) from by omega, wrap_word]
  have e2 : (x : Int) = ((UInt64.ofNat x).toNat : Int) := by rw [UInt64.toNat_ofNat']; omega
  have e3 : IntKind.u64.wrap ((v : Int) * 2 ^ 8) = IntKind.u64.wrap ((v : Int) * 256) := rfl
  rw [e3] at h
  rw [e, e2, word_or] at h ⊢
  rw [UInt64.or_comm, h]
  omega
theorem takeR_len (n : Nat) (l : List UInt8) (e : Int) : (takeR n l e).1.length ≤ n := by
  unfold takeR
  split
  · split
    · rw [List.length_take]; omega
    · simp
  · simp
set_option maxHeartbeats 8000000 in
theorem word_any {l : List UInt8} {e : Int} {lo R : Nat} {w : World} (h : Rd l e lo R w) :
    Calls Try.prog 30 #[.pointer (some ⟨R, 0, none⟩)] w (Done (.int .u64 ((wordR l e).1 : Nat)) (wordR l e).2.1 (wordR l e).2.2 lo R w) := by
  have hlen := takeR_len 8 l e
  unfold wordR
  obtain ⟨L, l2, e2, ht⟩ : ∃ L l2 e2, takeR 8 l e = (L, l2, e2) := ⟨_, _, _, rfl⟩
  have hT := takeA 8 h ht
  rw [ht] at hlen ⊢
  change L.length ≤ 8 at hlen
  show Calls _ _ _ _ (Done (.int .u64 (beN L : Nat)) l2 e2 lo R w)
  obtain ⟨V, hV⟩ : ∃ V, beN L = V := ⟨_, rfl⟩
  rw [hV]
  replace hV := Lib.hid hV
  clear h ht
  rw [show ((8 : Nat) : Int) = 8 from rfl] at hT
  replace hT := Lib.hid hT
  go_enter Try.func30, Try.ntmps30
  go_wp2_with (go_at_call 48; refine hT.out.mono ?_)
  rintro en w1 ⟨a, c, rfl, hbi, hc, hk, hrd⟩
  go_wp2
  go_loop [3, 9] (fun v i => ∃ k : Nat, k ≤ L.length ∧ i = .int .i64 k ∧ v = .int .u64 (beN (L.take k) : Nat)) (fun _ i => L.length - (intOf i).toNat)
  case atStart => exact ⟨0, Nat.zero_le _, rfl, rfl⟩
  case round =>
    obtain ⟨k, hkl, rfl, rfl⟩ := hrel
    by_cases hlt : k < L.length
    · obtain ⟨b, off, rfl, _, _, hcell⟩ := hbi.at_ k hlt
      have hlt' : (k : Int) < (L.length : Int) := by omega
      have hn := beN_take L k hlt
      have hv := beN_lt L k hkl
      have hp : 256 ^ k ≤ 256 ^ 7 := Nat.pow_le_pow_right (by omega) (by omega)
      have hx := L[k].toNat_lt
      have hor := or_byte (beN (L.take k)) L[k].toNat (by simp only [Nat.reducePow] at hp; omega) hx
      rw [← hn] at hor
      replace hbi := Lib.hid hbi
      generalize beN (L.take k) = v at hor
      generalize L[k].toNat = x at hor hcell hx
      have hx' : x < 256 := hx
      clear hn hv hp hx
      go_wp2
      go_round
      case rel => exact ⟨k + 1, by omega, by go_num, rfl⟩
      case measure => simp [intOf]; omega
    · obtain rfl : k = L.length := by omega
      rw [List.take_of_length_le (Nat.le_refl _), hV.out]
      go_wp2
      go_ret
      exact ⟨rfl, hk, hrd⟩
end Go.Proofs.Ytkmnmddengnjlaa
