/- Contracts of the package's Frame, Hash and Mac of any fields. -/
import Derived.Test.YtiomdikompodfaaDigF
import Derived.Test.YtiomdikompodfaaRefHash
namespace Go.Proofs.Ytiomdikompodfaa
open Go Go.RowKit

theorem sizeOf_lit (a0 : Option Addr) (n cap : Nat) (w : World) (hn : n ≤ 100000) (c0 c1 c2 c3 c4 c5 c6 c7 : UInt8) (hc : lenB n = [c0, c1, c2, c3, c4, c5, c6, c7]) :
    Calls Try.prog 22 #[.slice a0 n cap] w fun e w' => e = .returned (.agg #[.int .u8 (c0.toNat : Int), .int .u8 (c1.toNat : Int), .int .u8 (c2.toNat : Int), .int .u8 (c3.toNat : Int), .int .u8 (c4.toNat : Int), .int .u8 (c5.toNat : Int), .int .u8 (c6.toNat : Int), .int .u8 (c7.toNat : Int)]) ∧ Below w.heap.size w w' := by
  have := sizeOf_any a0 n cap w hn
  rw [hc] at this
  exact this
set_option maxHeartbeats 8000000 in
theorem frame_any (a0 : Option Addr) (fs : List (List UInt8)) (cap : Nat) (w : World) (hl : fs.length ≤ 1000) (hf : ∀ f ∈ fs, f.length ≤ 100000) (_hc : fs.length ≤ cap) (hF : FieldsAre a0 fs w) :
    Calls Try.prog 12 #[.slice a0 (fs.length : Nat) cap] w (MadeBytes (frameL fs) w) := by
  go_enter Try.func12, Try.ntmps12
  go_wp2
  go_loopw [3, 5, 6, 9] (fun v _ _ i wr => ∃ n : Nat, n ≤ fs.length ∧ i = .int .i64 n ∧ Own w.heap.size v (frameL (fs.take n)) wr ∧ Below w.heap.size w wr) (fun _ _ _ i _ => fs.length - (intOf i).toNat)
  case atStart => exact ⟨0, Nat.zero_le _, rfl, own_nil _ _, Below.refl _ _⟩
  case round =>
    obtain ⟨n, hn, rfl, hown, hbl⟩ := hrel
    have hfl : (frameL (fs.take n)).length ≤ 1000 * 100008 := by
      refine Nat.le_trans (frameL_le (fs.take n) fun g hg => hf g (List.mem_of_mem_take hg)) ?_
      rw [List.length_take]
      omega
    by_cases hlt : n < fs.length
    · obtain ⟨b, off, a1, c1, rfl, hbk, hc, hnc, _, hby⟩ := hF n hlt
      have hm := hf fs[n] (List.getElem_mem hlt)
      have hcw := hbl.cell (p := ⟨b, off + n, none⟩) hbk
      rw [hc] at hcw
      have hnx := Lib.hid (frameL_take fs n hlt)
      generalize frameL (fs.take n) = L at hown hfl hnx
      have hlt' : (n : Int) < (fs.length : Int) := by omega
      have hsz := hbl.size
      replace hbl := Lib.hid hbl
      replace hc := Lib.hid hc
      generalize fs[n] = f at hm hby hcw hnx
      obtain ⟨e0, e1, e2, e3, e4, e5, e6, e7, hle⟩ : ∃ e0 e1 e2 e3 e4 e5 e6 e7, lenB f.length = [e0, e1, e2, e3, e4, e5, e6, e7] := ⟨_, _, _, _, _, _, _, _, rfl⟩
      have hso := Lib.hid (sizeOf_lit a1 f.length c1 wr hm e0 e1 e2 e3 e4 e5 e6 e7 hle)
      replace hle := Lib.hid hle
      go_upto_region 6 with (go_at_call 22; refine hso.out.mono ?_; rintro e w2 ⟨rfl, hb2⟩)
      have hrow : Row8 w2.heap.size [e0, e1, e2, e3, e4, e5, e6, e7] (w2.alloc (.cells #[.int .u8 (e0.toNat : Int), .int .u8 (e1.toNat : Int), .int .u8 (e2.toNat : Int), .int .u8 (e3.toNat : Int), .int .u8 (e4.toNat : Int), .int .u8 (e5.toNat : Int), .int .u8 (e6.toNat : Int), .int .u8 (e7.toNat : Int)] 44)) := heap_alloc_new w2 _
      have hb3 : Below w2.heap.size w2 (w2.alloc (.cells #[.int .u8 (e0.toNat : Int), .int .u8 (e1.toNat : Int), .int .u8 (e2.toNat : Int), .int .u8 (e3.toNat : Int), .int .u8 (e4.toNat : Int), .int .u8 (e5.toNat : Int), .int .u8 (e6.toNat : Int), .int .u8 (e7.toNat : Int)] 44)) := (Below.refl _ _).alloc (Nat.le_refl _) _
      generalize w2.alloc (.cells #[.int .u8 (e0.toNat : Int), .int .u8 (e1.toNat : Int), .int .u8 (e2.toNat : Int), .int .u8 (e3.toNat : Int), .int .u8 (e4.toNat : Int), .int .u8 (e5.toNat : Int), .int .u8 (e6.toNat : Int), .int .u8 (e7.toNat : Int)] 44) = w3 at hrow hb3 ⊢
      have hown3 := (hown.below hb2).below hb3
      have hb23 := hbl.out.trans ((hb2.trans (hb3.mono hb2.size)).mono hsz)
      have hsz3 := hb23.size
      have hlb := hrow.bytes
      generalize w2.heap.size = g at hlb ⊢
      clear hrow hb3 hb2 hown hso hcw hc
      replace hb23 := Lib.hid hb23
      go_wp2_with (at_builtin; refine wpList_ownL rfl _ _ rfl [e0, e1, e2, e3, e4, e5, e6, e7] (some ⟨g, 0, none⟩) 8 hown3 rfl rfl (by simp) hlb (by simp; omega) hsz3 ?_)
      intro v4 w4 hown4 hb4
      have hb24 := hb23.out.trans hb4
      have hsz4 := hb24.size
      have hby4 := hby.below (Nat.le_refl _) hb24
      replace hb24 := Lib.hid hb24
      go_wp2_with (at_builtin; refine wpList_ownL rfl _ _ rfl f a1 c1 hown4 rfl rfl hnc hby4 (by simp; omega) hsz4 ?_)
      intro v5 w5 hown5 hb5
      have hown6 : Own w.heap.size v5 (frameL (fs.take (n + 1))) w5 := by rw [hnx.out, hle.out, List.append_assoc]; exact hown5
      have hb25 := hb24.out.trans hb5
      clear hown3 hown4 hown5 hb4 hb5
      go_wp2
      go_roundw
      case rel => exact ⟨n + 1, by omega, by go_num, hown6, hb25⟩
      case measure => simp [intOf]; omega
    · obtain rfl : n = fs.length := by omega
      rw [List.take_of_length_le (Nat.le_refl _)] at hown hfl
      obtain ⟨a1, c1, rfl, hnc, hcp, hby⟩ := hown.shape
      have hlt' : ¬ (fs.length : Int) < (fs.length : Int) := by omega
      go_wp2
      go_ret
      exact ⟨a1, c1, rfl, hnc, hcp, hby, hbl, hown⟩

theorem hash_any (d : UInt64) (a0 : Option Addr) (fs : List (List UInt8)) (cap : Nat) (w : World) (hl : fs.length ≤ 1000) (hf : ∀ f ∈ fs, f.length ≤ 100000) (hs : (frameL fs).length ≤ 1000000) (hc : fs.length ≤ cap) (hF : FieldsAre a0 fs w) :
    Calls Try.prog 14 #[.int .u64 (d.toNat : Int), .slice a0 (fs.length : Nat) cap] w fun e w' => e = .returned (.int .u64 ((sipSum d 0 (frameL fs)).toNat : Int)) ∧ Below w.heap.size w w' := by
  go_enter Try.func14, Try.ntmps14
  go_wp2_with (go_at_call 12; refine (frame_any a0 fs cap _ hl hf hc hF).mono ?_; rintro e w1 ⟨a1, c1, rfl, hn1, hc1, hb1, hbl1, hown1⟩)
  go_wp2_with (go_at_call 9; refine (sum_any d 0 a1 (frameL fs) c1 _ hs hc1 hb1).mono ?_; rintro e w2 ⟨rfl, hb2⟩)
  go_ret
  exact ⟨rfl, hbl1.trans (hb2.mono hbl1.size)⟩
theorem mac_any (k d : UInt64) (a0 : Option Addr) (fs : List (List UInt8)) (cap : Nat) (w : World) (hl : fs.length ≤ 1000) (hf : ∀ f ∈ fs, f.length ≤ 100000) (hs : (frameL fs).length ≤ 1000000) (hc : fs.length ≤ cap) (hF : FieldsAre a0 fs w) :
    Calls Try.prog 16 #[.int .u64 (k.toNat : Int), .int .u64 (d.toNat : Int), .slice a0 (fs.length : Nat) cap] w fun e w' => e = .returned (.int .u64 ((sipSum k (d + 1) (frameL fs)).toNat : Int)) ∧ Below w.heap.size w w' := by
  have hd := word_add d 1
  rw [show (((1 : UInt64).toNat : Nat) : Int) = 1 from rfl] at hd
  go_enter Try.func16, Try.ntmps16
  go_wp2_with (go_at_call 12; refine (frame_any a0 fs cap _ hl hf hc hF).mono ?_; rintro e w1 ⟨a1, c1, rfl, hn1, hc1, hb1, hbl1, hown1⟩)
  go_wp2_with (go_at_call 9; refine (sum_any k (d + 1) a1 (frameL fs) c1 _ hs hc1 hb1).mono ?_; rintro e w2 ⟨rfl, hb2⟩)
  go_ret
  exact ⟨rfl, hbl1.trans (hb2.mono hbl1.size)⟩
end Go.Proofs.Ytiomdikompodfaa
