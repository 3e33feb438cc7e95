/- Contracts of the package's fold and groups, and of the document's answer for the encoding of a number. -/
import Derived.Test.YtkmnmddengnjlaaWJoin
namespace Go.Proofs.Ytkmnmddengnjlaa
open Go Go.RowKit

theorem ret_u64 {a b : Int} (h : a = b) : Ending.returned (.int .u64 a) = .returned (.int .u64 b) := by rw [h]
theorem fold_any (n : Int) (w : World) (h0 : -9223372036854775808 ≤ n) (h1 : n ≤ 9223372036854775807) :
    Calls Try.prog 52 #[.int .i64 n] w fun e w' => e = .returned (.int .u64 (zz n : Nat)) ∧ w = w' := by
  by_cases hn : n < 0
  · have hT := Lib.hid (twice_neg n h0 hn)
    go_enter Try.func52, Try.ntmps52
    go_wp2
    go_ret
    exact ⟨ret_u64 hT.out, rfl⟩
  · have hz : n * 2 = (zz n : Nat) := by unfold zz; rw [if_neg hn]; omega
    replace hz := Lib.hid hz
    go_enter Try.func52, Try.ntmps52
    go_wp2
    go_ret
    exact ⟨ret_u64 hz.out, rfl⟩
/-- What holds while groups are written: what was written and the groups of what is left are L. -/
structure Groups (L : List UInt8) (B : Nat) (w : World) (v : Value) (u : Nat) (wr : World) : Prop where
  lt : u < 18446744073709551616
  fit : L.length ≤ 1000000
  all : ∃ l, Own B v l wr ∧ l ++ grp u = L
  below : Below B w wr
set_option maxHeartbeats 8000000 in
theorem groups_any (n : Int) (w : World) (h0 : -9223372036854775808 ≤ n) (h1 : n ≤ 9223372036854775807) :
    Calls Try.prog 35 #[.int .i64 n] w (MadeB (numB n) w) := by
  have hlt := zz_lt n h0 h1
  have hlen := numB_len n h0 h1
  have hst : Groups (numB n) w.heap.size w (.slice none 0 0) (zz n) w := ⟨hlt, by omega, ⟨[], own_nil _ _, rfl⟩, Below.refl _ _⟩
  generalize numB n = L at hst ⊢
  clear hlen
  go_enter Try.func35, Try.ntmps35
  go_wp2_with (go_at_call 52; refine (fold_any n _ h0 h1).mono ?_; rintro e w1 ⟨rfl, rfl⟩)
  go_loopw [3, 4] (fun v x wr => ∃ u : Nat, x = .int .u64 (u : Nat) ∧ Groups L w.heap.size w v u wr) (fun _ x _ => (intOf x).toNat)
  case atStart => exact ⟨zz n, rfl, hst⟩
  case round =>
    obtain ⟨u, rfl, ⟨hu, hfit, ⟨l, hown, hall⟩, hbl⟩⟩ := hrel
    clear hst hlt h0 h1
    have hsz := hbl.size
    have hll : l.length + (grp u).length ≤ 1000000 := by rw [← List.length_append, hall]; exact hfit
    by_cases hs : u < 128
    · have hs' : ¬ (128 : Int) ≤ (u : Int) := by omega
      obtain ⟨c, rfl⟩ : ∃ c : UInt8, u = c.toNat := ⟨UInt8.ofNat u, (ofNat_toNat (by omega)).symm⟩
      have hgl := grp_pos c.toNat
      rw [grp_small hs, show UInt8.ofNat c.toNat = c from by simp] at hall
      replace hall := Lib.hid hall
      replace hu := Lib.hid hu
      replace hbl := Lib.hid hbl
      go_wp2_with (at_builtin; refine wpList_own1 rfl _ _ rfl c hown rfl rfl ?c1 (by omega) ?_)
      case c1 => omega
      intro v' w2 hown2 hb2
      obtain ⟨a1, c1, rfl, k1, k2, k3, k4⟩ := hown2.fits
      go_wp2
      go_ret
      rw [hall.out] at k2 k4 ⊢
      exact ⟨a1, c1, rfl, k1, k2, k3, k4, hbl.out.trans hb2⟩
    · have hs' : (128 : Int) ≤ (u : Int) := by omega
      obtain ⟨c, hc⟩ : ∃ c, UInt8.ofNat (u % 128 + 128) = c := ⟨_, rfl⟩
      have he : bits .or .u8 ((u : Int) % 256) 128 = (c.toNat : Int) := by
        rw [← hc, ofNat_toNat (by omega), show (u : Int) % 256 = ((u % 256 : Nat) : Int) from by omega, or8 _ (by omega)]
        omega
      rw [grp_big hs, hc, List.append_cons] at hall
      have hgl := grp_pos u
      have hd : (u : Int) / 128 = ((u / 128 : Nat) : Int) := by omega
      have hlt : u / 128 < u := by omega
      replace hall := Lib.hid hall
      replace hu := Lib.hid hu
      replace hbl := Lib.hid hbl
      replace hd := Lib.hid hd
      clear hc
      go_wp2_with (at_builtin; refine wpList_own1 rfl _ _ rfl c hown rfl rfl ?c1 (by omega) ?_)
      case c1 => omega
      intro v' w2 hown2 hb2
      go_wp2
      go_roundw
      case rel => exact ⟨u / 128, by rw [← hd.out], by have := hu.out; omega, hfit, ⟨_, hown2, hall.out⟩, hbl.out.trans hb2⟩
      case measure => simp [intOf]; omega
end Go.Proofs.Ytkmnmddengnjlaa
