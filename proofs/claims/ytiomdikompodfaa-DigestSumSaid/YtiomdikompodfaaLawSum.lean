/- DigestSum: for every key and every slice of bytes, digest.Sum and the document's answer agree on its first bytes. -/
import Derived.Test.YtiomdikompodfaaAwake2
import Derived.Lib.QuietBelow
import Derived.Deep.QuietTactic
import Derived.BigQuiet
import Derived.Laws.Cover4
import Derived.RegionTactic
import Derived.ChangeAlike
namespace Go.Proofs.Ytiomdikompodfaa
open Go Go.RowKit

theorem sum_grown {w : World} (k0 k1 : UInt64) (a0 : Option Addr) (l : List UInt8) (cap : Nat) (hl : l.length ≤ 1000000) (hc : l.length ≤ cap) (hB : BytesAre a0 l w) (d : Nat) (os : Array Obj) :
    Calls Try.prog 9 #[.int .u64 (k0.toNat : Int), .int .u64 (k1.toNat : Int), .slice a0 l.length cap] (Sort.grow (redrawn w d) os) fun e w' => e = .returned (.int .u64 ((sipSum k0 k1 l).toNat : Int)) ∧ ∃ p : Regrown, w' = Sort.grow (redrawn w p.d) p.os :=
  Calls.regrown_of (sum_any k0 k1 a0 l cap _ hl hc (hB.below (Nat.le_refl _) (below_regrown w d os)))
theorem refSum_grown {w : World} (k0 k1 : UInt64) (a0 : Option Addr) (l : List UInt8) (cap : Nat) (hl : l.length ≤ 1000000) (hB : BytesAre a0 l w) (d : Nat) (os : Array Obj) :
    Calls Try.prog 10 #[.int .u64 (k0.toNat : Int), .int .u64 (k1.toNat : Int), .slice a0 l.length cap] (Sort.grow (redrawn w d) os) fun e w' => e = .returned (.int .u64 ((sipSum k0 k1 l).toNat : Int)) ∧ ∃ p : Regrown, w' = Sort.grow (redrawn w p.d) p.os :=
  Calls.regrown_of (refSum_any k0 k1 a0 l cap _ hl (hB.below (Nat.le_refl _) (below_regrown w d os)))

set_option maxHeartbeats 8000000 in
theorem lawSum_small (k0 k1 : UInt64) (a0 : Option Addr) (L : List UInt8) (cap : Nat) (w : World) (hl : L.length ≤ 600) (hc : L.length ≤ cap) (hB : BytesAre a0 L w) :
    Calls Try.prog 3 #[.int .u64 (k0.toNat : Int), .int .u64 (k1.toNat : Int), .slice a0 L.length cap] w fun e w' => e = .returned (.bool true) ∧ Below w.heap.size w w' := by
  have B := Below.refl w.heap.size w
  go_enter Try.func3, Try.ntmps3
  go_wp2_with (go_at_call 8; refine (awake_any _).mono ?_; rintro e W ⟨rfl, hb⟩; replace B := B.trans (hb.mono B.size); clear hb)
  go_loopw [7] (fun i wr => ∃ q : Int, -1 ≤ q ∧ q ≤ (L.length : Int) ∧ i = .int .i64 q ∧ Below w.heap.size w wr) (fun i _ => ((intOf i) + 1).toNat)
  case atStart => exact ⟨(L.length : Int), by omega, by omega, rfl, B⟩
  case round =>
    obtain ⟨q, hq0, hq1, rfl, hbw⟩ := hrel
    by_cases hin : 0 ≤ q ∧ (L.length : Int) - 20 < q
    · obtain ⟨n, rfl⟩ : ∃ n : Nat, q = (n : Int) := ⟨q.toNat, by omega⟩
      obtain ⟨_, g2⟩ := hin
      have hn : n ≤ L.length := by omega
      have hB2 := (hB.take n).below (Nat.le_refl _) hbw
      have htl : (L.take n).length = n := by rw [List.length_take]; omega
      have cS := sum_grown k0 k1 a0 (L.take n) cap (by omega) (by omega) hB2
      have cR := refSum_grown k0 k1 a0 (L.take n) cap (by omega) hB2
      rw [htl] at cS cR
      have hnc : n ≤ cap := by omega
      go_wp2
      refine wp_region_quiet_below (by kernel_rfl) (by kernel_rfl) ?_
      repeat (quiet_step (first | exact cS _ _ | exact cR _ _))
      refine wpQuiet_nil ?_
      intro _ hw'
      obtain ⟨⟨dq, osq⟩, hw''⟩ := hw'
      subst hw''
      have hb2 := below_regrown wr dq osq
      generalize Sort.grow (redrawn wr dq) osq = w2 at hb2 ⊢
      clear cS cR
      go_wp2
      go_roundw
      case rel => exact ⟨(n : Int) - 1, by omega, by omega, by go_num, hbw.trans (hb2.mono hbw.size)⟩
      case measure => (simp [intOf]; try omega)
    · by_cases hq : 0 ≤ q
      · have hq2 : ¬ (L.length : Int) - 20 < q := fun h => hin ⟨hq, h⟩
        clear hin
        go_wp2
        go_ret
        exact ⟨rfl, hbw⟩
      · clear hin
        go_wp2
        go_ret
        exact ⟨rfl, hbw⟩
set_option maxHeartbeats 8000000 in
theorem lawSum_big (k0 k1 : UInt64) (a0 : Option Addr) (L : List UInt8) (m cap : Nat) (w : World) (hl : L.length = 600) (hm : 600 < m) (hm2 : m ≤ 9223372036854775807) (hc : m ≤ cap) (hB : BytesAre a0 L w) :
    Calls Try.prog 3 #[.int .u64 (k0.toNat : Int), .int .u64 (k1.toNat : Int), .slice a0 m cap] w fun e w' => e = .returned (.bool true) ∧ Below w.heap.size w w' := by
  have B := Below.refl w.heap.size w
  go_enter Try.func3, Try.ntmps3
  go_upto_region 5 with (go_at_call 8; refine (awake_any _).mono ?_; rintro e W ⟨rfl, hb⟩; replace B := B.trans (hb.mono B.size); clear hb)
  rw [show Value.slice a0 600 cap = Value.slice a0 L.length cap from by rw [hl], show decide ((600 : Int) < (m : Int)) = true from by simp; omega]
  have hc2 : L.length ≤ cap := by omega
  have hl2 : L.length ≤ 600 := by omega
  clear hc
  replace hl := Lib.hid hl
  replace hm := Lib.hid hm
  go_wp2
  go_loopw [7] (fun i wr => ∃ q : Int, -1 ≤ q ∧ q ≤ (L.length : Int) ∧ i = .int .i64 q ∧ Below w.heap.size w wr) (fun i _ => ((intOf i) + 1).toNat)
  case atStart => exact ⟨(L.length : Int), by omega, by omega, rfl, B⟩
  case round =>
    obtain ⟨q, hq0, hq1, rfl, hbw⟩ := hrel
    by_cases hin : 0 ≤ q ∧ (L.length : Int) - 20 < q
    · obtain ⟨n, rfl⟩ : ∃ n : Nat, q = (n : Int) := ⟨q.toNat, by omega⟩
      obtain ⟨_, g2⟩ := hin
      have hn : n ≤ L.length := by omega
      have hB2 := (hB.take n).below (Nat.le_refl _) hbw
      have htl : (L.take n).length = n := by rw [List.length_take]; omega
      have cS := sum_grown k0 k1 a0 (L.take n) cap (by omega) (by omega) hB2
      have cR := refSum_grown k0 k1 a0 (L.take n) cap (by omega) hB2
      rw [htl] at cS cR
      have hnc : n ≤ cap := by omega
      go_wp2
      refine wp_region_quiet_below (by kernel_rfl) (by kernel_rfl) ?_
      repeat (quiet_step (first | exact cS _ _ | exact cR _ _))
      refine wpQuiet_nil ?_
      intro _ hw'
      obtain ⟨⟨dq, osq⟩, hw''⟩ := hw'
      subst hw''
      have hb2 := below_regrown wr dq osq
      generalize Sort.grow (redrawn wr dq) osq = w2 at hb2 ⊢
      clear cS cR
      go_wp2
      go_roundw
      case rel => exact ⟨(n : Int) - 1, by omega, by omega, by go_num, hbw.trans (hb2.mono hbw.size)⟩
      case measure => (simp [intOf]; try omega)
    · by_cases hq : 0 ≤ q
      · have hq2 : ¬ (L.length : Int) - 20 < q := fun h => hin ⟨hq, h⟩
        clear hin
        go_wp2
        go_ret
        exact ⟨rfl, hbw⟩
      · clear hin
        go_wp2
        go_ret
        exact ⟨rfl, hbw⟩
/-- THE WALK OF THE LAW. -/
theorem lawSum_walk (k0 k1 : UInt64) (a0 : Option Addr) (l : List UInt8) (cap : Nat) (w : World) (hl : l.length ≤ 9223372036854775807) (hc : l.length ≤ cap) (hB : BytesAre a0 l w) :
    Calls Try.prog 3 #[.int .u64 (k0.toNat : Int), .int .u64 (k1.toNat : Int), .slice a0 l.length cap] w fun e w' => e = .returned (.bool true) ∧ Below w.heap.size w w' := by
  by_cases h : 600 < l.length
  · exact lawSum_big k0 k1 a0 (l.take 600) l.length cap w (by rw [List.length_take]; omega) h hl hc (hB.take 600)
  · exact lawSum_small k0 k1 a0 l cap w (by omega) hc hB
end Go.Proofs.Ytiomdikompodfaa
