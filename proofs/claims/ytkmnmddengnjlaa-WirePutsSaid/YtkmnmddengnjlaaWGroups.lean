/- Contracts of the package's unfold and readGroups. -/
import Derived.Test.YtkmnmddengnjlaaWRef
namespace Go.Proofs.Ytkmnmddengnjlaa
open Go Go.RowKit

theorem ret_i64 {a b : Int} (h : a = b) : Ending.returned (.int .i64 a) = .returned (.int .i64 b) := by rw [h]
theorem unfold_any (u : Nat) (w : World) (hu : u < 18446744073709551616) :
    Calls Try.prog 47 #[.int .u64 (u : Nat)] w fun e w' => e = .returned (.int .i64 (unz u)) ∧ w = w' := by
  have hm := and64_1 u hu
  have hd : (u : Int) / 2 = ((u / 2 : Nat) : Int) := by omega
  have hw : IntKind.i64.wrap ((u / 2 : Nat) : Int) = ((u / 2 : Nat) : Int) := by rw [IntKind.wrap_i64]; omega
  have hx := not_int (u / 2) (by omega)
  by_cases hodd : u % 2 = 1
  · have hr : unz u = -((u / 2 : Nat) : Int) - 1 := by unfold unz; rw [if_pos hodd]
    rw [hr]
    rw [hodd] at hm
    generalize u / 2 = h at hd hw hx ⊢
    clear hr
    replace hu := Lib.hid hu
    go_enter Try.func47, Try.ntmps47
    go_wp2
    go_ret
    exact ⟨rfl, rfl⟩
  · have h0 : u % 2 = 0 := by omega
    have hr : unz u = ((u / 2 : Nat) : Int) := by unfold unz; rw [if_neg hodd]
    rw [hr]
    rw [h0] at hm
    generalize u / 2 = h at hd hw hx ⊢
    clear hr
    replace hu := Lib.hid hu
    go_enter Try.func47, Try.ntmps47
    go_wp2
    go_ret
    exact ⟨rfl, rfl⟩
set_option maxHeartbeats 8000000 in
theorem readGroups_any (a : Option Addr) (l : List UInt8) (c : Nat) (w : World) (hl : l.length ≤ 1000000) (hB : BytesAre a l w) :
    Calls Try.prog 46 #[.slice a (l.length : Nat) c] w fun e w' => e = .returned (.tuple #[.int .u64 ((readG 0 0 l).1 : Nat), .int .i64 ((readG 0 0 l).2.1 : Nat), .int .i64 (readG 0 0 l).2.2]) ∧ w = w' := by
  obtain ⟨U, N, E, hG⟩ : ∃ U N E, readG 0 0 l = (U, N, E) := ⟨_, _, _, rfl⟩
  rw [hG]
  replace hG := Lib.hid hG
  show Calls _ _ _ _ fun e w' => e = .returned (.tuple #[.int .u64 (U : Nat), .int .i64 (N : Nat), .int .i64 E]) ∧ w = w'
  go_enter Try.func46, Try.ntmps46
  go_wp2
  go_loop [5, 10] (fun u i => ∃ k v : Nat, k ≤ l.length ∧ k ≤ 9 ∧ i = .int .i64 k ∧ u = .int .u64 v ∧ v < 2 ^ (7 * k) ∧ readG k v (l.drop k) = (U, N, E)) (fun _ i => l.length - (intOf i).toNat)
  case atStart => exact ⟨0, 0, Nat.zero_le _, by omega, rfl, rfl, by decide, hG.out⟩
  case round =>
    obtain ⟨k, v, hk, hk9, rfl, rfl, hv, hg⟩ := hrel
    by_cases hlt : k < l.length
    · obtain ⟨b, off, rfl, hbk, hcell⟩ := hB k hlt
      rw [List.drop_eq_getElem_cons hlt] at hg
      simp only [readG] at hg
      have hz := l[k].toNat_lt
      have ha := andNot8 l[k].toNat hz
      generalize l[k].toNat = z at hg hcell hz ha
      have hz' : z < 256 := hz
      clear hz
      have hlt' : (k : Int) < (l.length : Int) := by omega
      by_cases c1 : k = 9 ∧ 1 < z
      · obtain ⟨rfl, hz1⟩ := c1
        rw [if_pos ⟨rfl, hz1⟩] at hg
        simp only [Prod.mk.injEq] at hg
        obtain ⟨rfl, rfl, rfl⟩ := hg
        clear ha hv
        go_wp2
        exact bodyPost_ret (v := .tuple #[.int .u64 0, .int .i64 0, .int .i64 3]) (by simp [results, Try.results46, go_sem]) rfl ⟨rfl, rfl⟩
      · rw [if_neg c1] at hg
        by_cases c2 : z = 0 ∧ 0 < k
        · obtain ⟨rfl, hk0⟩ := c2
          rw [if_pos ⟨rfl, hk0⟩] at hg
          simp only [Prod.mk.injEq] at hg
          obtain ⟨rfl, rfl, rfl⟩ := hg
          clear ha hv c1
          go_wp2
          all_goals exact bodyPost_ret (v := .tuple #[.int .u64 0, .int .i64 0, .int .i64 1]) (by simp [results, Try.results46, go_sem]) rfl ⟨rfl, rfl⟩
        · rw [if_neg c2] at hg
          have hp1 : 2 ^ (7 * k) ≤ 2 ^ 63 := Nat.pow_le_pow_right (by omega) (by omega)
          have hp2 : k ≠ 9 → 2 ^ (7 * k) ≤ 2 ^ 56 := fun h => Nat.pow_le_pow_right (by omega) (by omega)
          simp only [Nat.reducePow] at hp1 hp2
          have hy : z % 128 * 2 ^ (7 * k) ≤ (if k = 9 then 1 else 127) * 2 ^ (7 * k) := Nat.mul_le_mul_right _ (by split <;> omega)
          have hfit : v + z % 128 * 2 ^ (7 * k) < 18446744073709551616 := by
            by_cases h9 : k = 9
            · subst h9
              simp only [if_true, Nat.reduceMul, Nat.reducePow] at hy hv ⊢
              omega
            · rw [if_neg h9] at hy
              have := hp2 h9
              omega
          have hor := or_sum v (z % 128) (7 * k) hv hfit
          have hy2 : z % 128 < 128 := by omega
          have hw : IntKind.u64.wrap ((z % 128 : Nat) : Int) = ((z % 128 : Nat) : Int) := by rw [IntKind.wrap_u64]; omega
          have hk0 : (k : Int) ≤ 9 := by omega
          by_cases hz1 : z ≤ 1
          · rw [if_pos (by omega : z < 128)] at hg
            simp only [Prod.mk.injEq] at hg
            obtain ⟨hU, rfl, rfl⟩ := hg
            replace hU := Lib.hid hU
            by_cases hz0 : z = 0
            · subst hz0
              obtain rfl : k = 0 := by omega
              obtain rfl : v = 0 := by simpa using hv
              have hcell0 : w.cell? ⟨b, off, none⟩ = some (.int .u8 0) := hcell
              have hlt0 : (0 : Int) < (l.length : Int) := hlt'
              clear hp1 hp2 hy hfit c1 c2 hk9 hy2 hor hw ha hcell hlt' hk0 hv hlt hk hz1 hz'
              rw [show (((0 : Nat) : Int)) = 0 from rfl]
              go_wp2
              refine bodyPost_ret (v := .tuple #[.int .u64 (bits .or .u64 0 (IntKind.u64.wrap (IntKind.u64.wrap (bits .andNot .u8 0 128)))), .int .i64 1, .int .i64 0]) (by simp [results, Try.results46, go_sem]) rfl ⟨?_, rfl⟩
              rw [← hU.out]
              rfl
            · obtain rfl : z = 1 := by omega
              obtain ⟨g, hgk⟩ : ∃ g, ((k : Int) == 9) = g := ⟨_, rfl⟩
              have hgd : decide ((k : Int) = 9) = g := by rw [← hgk]; rfl
              rw [show (((1 % 128 : Nat) : Nat) : Int) = 1 from rfl] at hor
              replace hor := Lib.hid hor
              rw [show (((1 : Nat)) : Int) = 1 from rfl] at hcell
              clear hp1 hp2 hy hfit c1 c2 hk9 hy2 hv ha hw hz1 hz0 hz'
              go_wp2
              all_goals
                refine bodyPost_ret (v := .tuple #[.int .u64 (bits .or .u64 (v : Int) (IntKind.u64.wrap (IntKind.u64.wrap (bits .andNot .u8 1 128) * 2 ^ (7 * k)))), .int .i64 ((k : Int) + 1), .int .i64 0]) (by simp [results, Try.results46, go_sem]) rfl ⟨?_, rfl⟩
                rw [show IntKind.u64.wrap (bits .andNot .u8 1 128) = 1 from by decide, hor.out, hU.out]
          · have hq1 : ((k : Int) == 9) = false := by simp; omega
            have hq2 : ((z : Int) == 0) = false := by simp; omega
            have h9 : k ≠ 9 := by omega
            by_cases c3 : z < 128
            · rw [if_pos c3] at hg
              have hzz : z % 128 = z := by omega
              rw [hzz] at hor ha hw
              have hz3 : (z : Int) < 128 := by omega
              simp only [Prod.mk.injEq] at hg
              obtain ⟨hU, rfl, rfl⟩ := hg
              rw [hU] at hor
              clear hU hp1 hp2 hy hfit hv c1 c2 hk9 hy2 hzz
              go_wp2
              exact bodyPost_ret (v := .tuple #[.int .u64 (U : Int), .int .i64 ((k : Int) + 1), .int .i64 0]) (by simp [results, Try.results46, go_sem]) rfl ⟨rfl, rfl⟩
            · rw [if_neg c3] at hg
              have hzz : z % 128 = z - 128 := by omega
              have hz3 : ¬ (z : Int) < 128 := by omega
              have hv2 : v + (z - 128) * 2 ^ (7 * k) < 2 ^ (7 * (k + 1)) := by
                rw [← hzz]
                rw [if_neg h9] at hy
                rw [show 7 * (k + 1) = 7 + 7 * k from by omega, Nat.pow_add]
                omega
              rw [← hzz] at hg hv2
              generalize z % 128 = y at *
              generalize v + y * 2 ^ (7 * k) = S at *
              clear hp1 hp2 hy hfit hv c1 c2 c3 hzz
              replace hg := Lib.hid hg
              replace hv2 := Lib.hid hv2
              go_wp2
              go_round
              case rel => exact ⟨k + 1, S, by omega, by omega, by go_num, rfl, hv2.out, hg.out⟩
              case measure => simp [intOf]; omega
    · obtain rfl : k = l.length := by omega
      rw [List.drop_of_length_le (Nat.le_refl _)] at hg
      simp only [readG, Prod.mk.injEq] at hg
      obtain ⟨rfl, rfl, rfl⟩ := hg
      go_wp2
      exact bodyPost_ret (v := .tuple #[.int .u64 0, .int .i64 0, .int .i64 16]) (by simp [results, Try.results46, go_sem]) rfl ⟨rfl, rfl⟩
end Go.Proofs.Ytkmnmddengnjlaa
