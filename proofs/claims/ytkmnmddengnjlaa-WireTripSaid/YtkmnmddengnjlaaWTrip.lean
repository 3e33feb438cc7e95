/- WireTrip: for every choices, number, word, text and rest, what was written is read as it was, whatever follows. -/
import Derived.Test.YtkmnmddengnjlaaWEnc
namespace Go.Proofs.Ytkmnmddengnjlaa
open Go Go.RowKit

/-- The numbers that are written: the first one and those that follow it, wrapped. -/
def fromN (n : Int) (i : Nat) : Int := wrap64 (n + (i : Int))
theorem fromN_range (n : Int) (i : Nat) : -9223372036854775808 ≤ fromN n i ∧ fromN n i ≤ 9223372036854775807 := by
  unfold fromN wrap64
  omega
/-- What holds while the encodings are written. -/
def WriteAt (cl : List UInt8) (ca : Option Addr) (cc C D : Nat) (n : Int) (u : Nat) (s : ByteArray) (w : World) (b i : Value) (wr : World) : Prop :=
  ∃ (k : Nat) (a : Option Addr) (c : Nat), k ≤ cl.length ∧ i = .int .i64 (k : Nat) ∧ b = .slice a ((encs (fromN n) u s (cl.take k) 0).length : Nat) c ∧ Src a (encs (fromN n) u s (cl.take k) 0) c wr ∧ Codes cl ca cc C k wr ∧ Codes cl ca cc D 0 wr ∧ Below w.heap.size w wr
/-- What holds while they are read. -/
def ReadAt (cl : List UInt8) (ca : Option Addr) (cc D lo R : Nat) (n : Int) (u : Nat) (s : ByteArray) (rest : List UInt8) (w : World) (i : Value) (wr : World) : Prop :=
  ∃ (k : Nat), k ≤ cl.length ∧ i = .int .i64 (k : Nat) ∧ Rd (encs (fromN n) u s (cl.drop k) k ++ rest) 0 lo R wr ∧ Codes cl ca cc D k wr ∧ Below w.heap.size w wr
theorem drawNew20 (l : List UInt8) (a0 : Option Addr) (cap : Nat) (w : World) (hl : l.length ≤ 9223372036854775807) (hc : l.length ≤ cap) (hB : BytesOf a0 l w) :
    Calls Try.prog 18 #[.slice a0 (l.length : Nat) cap, .int .i64 20] w fun e w' => e = .returned (.pointer (some ⟨w.heap.size, 0, none⟩)) ∧ Codes (l.take 20) a0 cap w.heap.size 0 w' ∧ Below w.heap.size w w' :=
  drawNew_any l a0 cap 20 w hl hc (by omega) hB
set_option maxHeartbeats 16000000 in
theorem lawTrip_small (a0 a4 : Option Addr) (l0 l4 : List UInt8) (c0 c4 : Nat) (n : Int) (u : Nat) (s : ByteArray) (w : World) (hu : u < 18446744073709551616) (hs : s.size ≤ 200) (h4 : l4.length ≤ 100)
    (hl0 : l0.length ≤ 9223372036854775807) (hS0 : Src a0 l0 c0 w) (hS4 : Src a4 l4 c4 w) :
    Calls Try.prog 5 #[.slice a0 (l0.length : Nat) c0, .int .i64 n, .int .u64 (u : Nat), .string s, .slice a4 (l4.length : Nat) c4] w fun e w' => e = .returned (.bool true) ∧ Below w.heap.size w w' := by
  have B := Below.refl w.heap.size w
  have hs' : ¬ (200 : Int) < (s.size : Int) := by omega
  have h4' : ¬ (100 : Int) < (l4.length : Int) := by omega
  replace hu := Lib.hid hu
  replace hl0 := Lib.hid hl0
  go_enter Try.func5, Try.ntmps5
  go_upto_region 5 with (go_at_call 9; refine (awake_any _).mono ?_; rintro e W ⟨rfl, hb⟩; replace B := B.trans (hb.mono B.size); have hS0w := hS0.below (Nat.le_refl _) hb; clear hb)
  have hCw := B.size
  have hcn := Lib.hid (drawNew20 l0 a0 c0 W hl0.out hS0w.le hS0w.bytes)
  have hdn := Lib.hid (fun w1 (hb : Below W.heap.size W w1) => drawNew20 l0 a0 c0 w1 hl0.out hS0w.le (hS0w.bytes.below (Nat.le_refl _) hb))
  have hca : ∀ b off, a0 = some ⟨b, off, none⟩ → 0 < (l0.take 20).length → b < W.heap.size := fun b off h h0 => by
    rw [List.length_take] at h0
    obtain ⟨b', off', e1, e2, _⟩ := hS0w.bytes 0 (by omega)
    rw [e1] at h
    injection h with h
    injection h with h
    omega
  have hlc : (l0.take 20).length ≤ 20 := by rw [List.length_take]; omega
  clear hS0
  go_upto_region 6 with (first | (go_at_call 18; ((with_reducible refine hcn.out.mono ?_); rintro e w1 ⟨rfl, hc1, hb1⟩; have hdn1 := Lib.hid (hdn.out w1 hb1))) | (go_at_call 18; ((with_reducible refine hdn1.out.mono ?_); rintro e w2 ⟨rfl, hd2, hb2⟩)))
  have hCl : W.heap.size < w1.heap.size := hc1.lt
  have hDl : w1.heap.size < w2.heap.size := hd2.lt
  have hc2 := hc1.below hb2
  replace B := (B.trans (hb1.mono B.size)).trans (hb2.mono (by have := hb1.size; omega))
  generalize l0.take 20 = cl at hc2 hd2 hca hlc
  have hDw : w.heap.size ≤ w1.heap.size := by omega
  clear hcn hdn hdn1 hc1 hb1 hb2
  generalize w1.heap.size = D at hd2 hCl hDl hDw ⊢
  generalize W.heap.size = C at hc2 hca hCl hCw ⊢
  have hws : WriteAt cl a0 c0 C D n u s w (.slice none 0 0) (.int .i64 0) w2 := ⟨0, none, 0, Nat.zero_le _, rfl, rfl, src_nil _, hc2, hd2, B⟩
  have hlen : ∀ k, (encs (fromN n) u s (cl.take k) 0).length ≤ 4200 := fun k => by
    have h1 := encs_len (fromN n) u s (fromN_range n) hs (cl.take k) 0
    have h2 : (cl.take k).length ≤ 20 := by rw [List.length_take]; omega
    omega
  replace hlen := Lib.hid hlen
  replace hca := Lib.hid hca
  replace B := Lib.hid B
  clear hc2 hd2
  go_wp2
  go_loopw [13, 14] (fun b i wr => WriteAt cl a0 c0 C D n u s w b i wr) (fun _ i _ => cl.length - (intOf i).toNat)
  case atStart => exact hws
  case round =>
    obtain ⟨k, a, c, hk, rfl, rfl, hS, hcC, hcD, hbl⟩ := hrel
    clear hws
    have hle := hlen.out k
    by_cases hlt : k < cl.length
    · have hLf := left_any cl a0 c0 C k wr hcC
      rw [decide_eq_true hlt] at hLf
      have hdr : Below wr.heap.size wr wr.drew := (Below.refl _ _).drew
      have hP := put_any a _ c cl a0 c0 C k (fromN n k) u s wr.drew (by omega) (hS.below (Nat.le_refl _) hdr) (hcC.below hdr) (by omega) hlt (fromN_range n k) hu.out hs
      rw [← encs_snoc (fromN n) u s cl k hlt] at hP
      have hnx : ∀ a2 c2 w', Src a2 (encs (fromN n) u s (cl.take (k + 1)) 0) c2 w' → Codes cl a0 c0 C (k + 1) w' → Kept C wr.drew w' → WriteAt cl a0 c0 C D n u s w (.slice a2 ((encs (fromN n) u s (cl.take (k + 1)) 0).length : Nat) c2) (.int .i64 ((k + 1 : Nat) : Int)) w' := fun a2 c2 w' g1 g2 g3 =>
        ⟨k + 1, a2, c2, by omega, rfl, rfl, g1, g2, (hcD.below hdr).kept g3 (by omega) (fun b off e0 h0 => by have := hca.out b off e0 h0; omega), hbl.trans (hdr.mono hbl.size |>.trans (g3.below hCw hbl.size))⟩
      replace hnx := Lib.hid hnx
      generalize encs (fromN n) u s (cl.take (k + 1)) 0 = E2 at hP hnx
      generalize encs (fromN n) u s (cl.take k) 0 = E1 at hS hP hle
      have hlt' : (k : Int) < (cl.length : Int) := by omega
      have hk20 : (k : Int) ≤ 20 := by omega
      change Calls _ _ #[_, _, .int .i64 (wrap64 (n + (k : Int))), _, _] _ _ at hP
      replace hLf := Lib.hid hLf
      replace hP := Lib.hid hP
      clear hcC hcD
      go_wp2_with (first | (go_at_call 21; refine hLf.out.mono ?_; rintro en w5 ⟨rfl, rfl⟩) | (go_at_call 25; refine hP.out.mono ?_; rintro en w6 ⟨a2, c2, rfl, g1, g2, g3, g4⟩; have hN := Lib.hid (hnx.out a2 c2 _ g1 g3 g4); clear g1 g2 g3 g4))
      go_roundw
      case rel => exact hN.out
      case measure => simp [intOf]; omega
    · obtain rfl : k = cl.length := by omega
      have hLf := left_any cl a0 c0 C cl.length wr hcC
      rw [decide_eq_false hlt] at hLf
      replace hLf := Lib.hid hLf
      rw [List.take_of_length_le (Nat.le_refl _)] at hS hle ⊢
      have hdr : Below wr.heap.size wr wr.drew := (Below.refl _ _).drew
      replace hS := hS.below (Nat.le_refl _) hdr
      replace hcD := hcD.below hdr
      have hbl2 := hbl.trans (hdr.mono hbl.size)
      have hS4x := hS4.below (Nat.le_refl _) hbl2
      have hDx := hcD.lt
      have hst : encs (fromN n) u s (cl.drop 0) 0 = encs (fromN n) u s cl 0 := rfl
      obtain ⟨E, hE⟩ : ∃ E, encs (fromN n) u s cl 0 = E := ⟨_, rfl⟩
      rw [hE] at hS hle hst ⊢
      replace hE := Lib.hid hE
      replace hst := Lib.hid hst
      clear hcC hbl hdr hlt hk
      go_upto_region 11 with (go_at_call 21; refine hLf.out.mono ?_; rintro en w5 ⟨rfl, rfl⟩)
      generalize wr.drew = wx at hS hcD hbl2 hS4x hDx ⊢
      clear hLf
      go_wp2_with (at_builtin; refine wpList_ownL rfl _ _ rfl E a c (own_nil wx.heap.size wx) rfl rfl hS.nil hS.bytes (by simp; omega) (Nat.le_refl _) ?_)
      intro v7 w7 hown7 hb7
      have hS4y := hS4x.below (Nat.le_refl _) hb7
      have hz7 := hb7.size
      have hle7 : E.length + l4.length ≤ 140737488355328 := by omega
      go_wp2_with (at_builtin; refine wpList_ownL rfl _ _ rfl l4 a4 c4 hown7 rfl rfl hS4y.nil hS4y.bytes hle7 hz7 ?_)
      intro v8 w8 hown8 hb8
      have hb78 := hb7.trans hb8
      have hz8 := hb78.size
      obtain ⟨a5, c5, rfl, i1, i2, i3, i4, i5⟩ := hown8.bin
      have hN := new_any (a0 := a5) (l := E ++ l4) (cap := c5) (w := w8) (by rw [List.length_append]; omega) ⟨i1, i2, i5.are⟩
      have hcD8 := hcD.below hb78
      have hbl8 := hbl2.trans (hb78.mono hbl2.size)
      have hlen8 : (E ++ l4).length = E.length + l4.length := List.length_append
      rw [hlen8] at hN ⊢
      replace hN := Lib.hid hN
      clear hown7 hown8 hS hS4x hS4y hcD hb7 hb8 hb78 i5 i1 i2 hbl2
      go_wp2_with (go_at_call 19; refine hN.out.mono ?_)
      rintro en w9 ⟨R, rfl, hR, hrd, hb9⟩
      have hst9 : ReadAt cl a0 c0 D w8.heap.size R n u s l4 w (.int .i64 0) w9 := ⟨0, Nat.zero_le _, rfl, by rw [hst.out]; exact hrd, hcD8.below hb9, hbl8.trans (hb9.mono hbl8.size)⟩
      have hDlo : D < w8.heap.size := by omega
      generalize w8.heap.size = lo at hR hst9 hDlo
      clear hrd hcD8 hb9 hN hbl8
      go_wp2
      go_loopw [16] (fun i wr => ReadAt cl a0 c0 D lo R n u s l4 w i wr) (fun i _ => cl.length - (intOf i).toNat)
      case atStart => exact hst9
      case round =>
        obtain ⟨k, hk, rfl, hrd, hcD, hbl⟩ := hrel
        clear hst9
        have hdr : Below wr.heap.size wr wr.drew := (Below.refl _ _).drew
        have hLf := left_any cl a0 c0 D k wr hcD
        have hcDx := hcD.below hdr
        have hrdx := hrd.below hR hdr
        have hblx := hbl.trans (hdr.mono hbl.size)
        by_cases hlt : k < cl.length
        · rw [decide_eq_true hlt] at hLf
          rw [encs_drop (fromN n) u s cl k hlt, List.append_assoc] at hrdx
          have hG := get_any (encs (fromN n) u s (cl.drop (k + 1)) (k + 1) ++ l4) cl a0 c0 D k lo R (fromN n k) u s wr.drew (by omega) hlt hDlo hR (fromN_range n k) hu.out hs hcDx (fun b off e0 h0 => by have := hca.out b off e0 h0; omega) hrdx
          have hnx : ∀ w', Rd (encs (fromN n) u s (cl.drop (k + 1)) (k + 1) ++ l4) 0 lo R w' → Codes cl a0 c0 D (k + 1) w' → (∃ w1, Kept D wr.drew w1 ∧ Kept R w1 w') → ReadAt cl a0 c0 D lo R n u s l4 w (.int .i64 ((k + 1 : Nat) : Int)) w' := fun w' g1 g2 ⟨w1, g3, g4⟩ =>
            ⟨k + 1, by omega, rfl, g1, g2, hblx.trans ((g3.below hDw hblx.size).trans (g4.below (by omega) (by have := g3.size; have := hblx.size; omega)))⟩
          replace hnx := Lib.hid hnx
          have hlt' : (k : Int) < (cl.length : Int) := by omega
          have hk20 : (k : Int) ≤ 20 := by omega
          change Calls _ _ #[_, _, .int .i64 (wrap64 (n + (k : Int))), _, _] _ _ at hG
          replace hLf := Lib.hid hLf
          replace hG := Lib.hid hG
          replace hrdx := Lib.hid hrdx
          clear hcD hrd hcDx
          go_wp2_with (first | (go_at_call 21; refine hLf.out.mono ?_; rintro en w5 ⟨rfl, rfl⟩) | (go_at_call 26; refine hG.out.mono ?_; rintro en w6 ⟨rfl, g1, g2, g3⟩; have hN := Lib.hid (hnx.out _ g1 g2 g3); clear g1 g2 g3))
          go_roundw
          case rel => exact hN.out
          case measure => simp [intOf]; omega
        · obtain rfl : k = cl.length := by omega
          rw [decide_eq_false hlt] at hLf
          have hrd2 : Rd l4 0 lo R wr.drew := by
            have := hrdx
            rw [List.drop_eq_nil_of_le (Nat.le_refl _)] at this
            exact this
          have hEr := Lib.hid (err_any hrd2)
          have hEn := end_any hrd2
          replace hLf := Lib.hid hLf
          replace hrd := Lib.hid hrd
          replace hrdx := Lib.hid hrdx
          replace hrd2 := Lib.hid hrd2
          by_cases h0 : 0 < l4.length
          · rw [show endR l4 0 = 17 from if_pos ⟨rfl, h0⟩] at hEn
            have h0' : (0 : Int) < (l4.length : Int) := by omega
            replace hEn := Lib.hid hEn
            go_wp2_with (first | (go_at_call 21; refine hLf.out.mono ?_; rintro en w5 ⟨rfl, rfl⟩) | (go_at_call 27; refine hEr.out.mono ?_; rintro en w6 ⟨rfl, rfl⟩) | (go_at_call 23; refine hEn.out.mono ?_; rintro en w7 ⟨rfl, rfl⟩))
            go_ret
            exact ⟨rfl, hblx⟩
          · rw [show endR l4 0 = 0 from if_neg (fun h => h0 h.2)] at hEn
            have h0' : ¬ (0 : Int) < (l4.length : Int) := by omega
            replace hEn := Lib.hid hEn
            go_wp2_with (first | (go_at_call 21; refine hLf.out.mono ?_; rintro en w5 ⟨rfl, rfl⟩) | (go_at_call 27; refine hEr.out.mono ?_; rintro en w6 ⟨rfl, rfl⟩) | (go_at_call 23; refine hEn.out.mono ?_; rintro en w7 ⟨rfl, rfl⟩))
            go_ret
            exact ⟨rfl, hblx⟩
/-- THE WALK OF THE LAW. -/
theorem lawTrip_walk (a0 a4 : Option Addr) (l0 l4 : List UInt8) (c0 c4 : Nat) (n : Int) (u : Nat) (s : ByteArray) (w : World) (hu : u < 18446744073709551616)
    (hl0 : l0.length ≤ 9223372036854775807) (hS0 : Src a0 l0 c0 w) (hS4 : Src a4 l4 c4 w) :
    Calls Try.prog 5 #[.slice a0 (l0.length : Nat) c0, .int .i64 n, .int .u64 (u : Nat), .string s, .slice a4 (l4.length : Nat) c4] w fun e w' => e = .returned (.bool true) ∧ Below w.heap.size w w' := by
  by_cases h1 : 200 < s.size
  · have B := Below.refl w.heap.size w
    have h1' : (200 : Int) < (s.size : Int) := by omega
    replace hu := Lib.hid hu
    replace hl0 := Lib.hid hl0
    go_enter Try.func5, Try.ntmps5
    go_wp2_with (go_at_call 9; refine (awake_any _).mono ?_; rintro e W ⟨rfl, hb⟩; replace B := B.trans (hb.mono B.size); clear hb)
    go_ret
    exact ⟨rfl, B⟩
  · by_cases h2 : 100 < l4.length
    · have B := Below.refl w.heap.size w
      have h1' : ¬ (200 : Int) < (s.size : Int) := by omega
      have h2' : (100 : Int) < (l4.length : Int) := by omega
      replace hu := Lib.hid hu
      replace hl0 := Lib.hid hl0
      go_enter Try.func5, Try.ntmps5
      go_wp2_with (go_at_call 9; refine (awake_any _).mono ?_; rintro e W ⟨rfl, hb⟩; replace B := B.trans (hb.mono B.size); clear hb)
      go_ret
      exact ⟨rfl, B⟩
    · exact lawTrip_small a0 a4 l0 l4 c0 c4 n u s w hu (by omega) (by omega) hl0 hS0 hS4
end Go.Proofs.Ytkmnmddengnjlaa
