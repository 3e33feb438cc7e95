/- Contracts of the document's PutNumber, PutBool, PutWord, PutText. -/
import Derived.Test.YtkmnmddengnjlaaWWord
import Derived.Lib.AppendStr
namespace Go.Proofs.Ytkmnmddengnjlaa
open Go Go.RowKit

set_option maxHeartbeats 8000000 in
theorem refNumber_any (a0 : Option Addr) (l : List UInt8) (cap : Nat) (n : Int) (w : World) (hl : l.length ≤ 900000) (hS : Src a0 l cap w) (h0 : -9223372036854775808 ≤ n) (h1 : n ≤ 9223372036854775807) :
    Calls Try.prog 11 #[.slice a0 (l.length : Nat) cap, .int .i64 n] w (MadeOwn (l ++ numB n) w) := by
  have hlt := zz_lt n h0 h1
  have hlen := numB_len n h0 h1
  have hst : ∀ v wr, Own w.heap.size v l wr → Below w.heap.size w wr → Groups (l ++ numB n) w.heap.size w v (zz n) wr := fun v wr h hb => ⟨hlt, by rw [List.length_append]; omega, ⟨l, h, rfl⟩, hb⟩
  generalize l ++ numB n = L at hst ⊢
  clear hlen
  by_cases hn : n < 0
  · have htw := Lib.hid (twice_neg n h0 hn)
    go_enter Try.func11, Try.ntmps11
    go_wp2_with (at_builtin; refine wpList_ownL rfl _ _ rfl l a0 cap (own_nil w.heap.size w) rfl rfl hS.nil hS.bytes (by simp; omega) (Nat.le_refl _) ?_)
    intro v w1 hown hb
    have hst1 := hst _ _ hown hb
    clear hst hown hb
    go_wp2
    go_loopw [0, 5] (fun v x wr => ∃ u : Nat, x = .int .u64 (u : Nat) ∧ Groups L w.heap.size w v u wr) (fun _ x _ => (intOf x).toNat)
    case atStart => exact ⟨zz n, by rw [htw.out], hst1⟩
    case round =>
      obtain ⟨u, rfl, ⟨hu, hfit, ⟨k, hown, hall⟩, hbl⟩⟩ := hrel
      clear hst1 hlt h0 h1 hn htw hS hl
      have hsz := hbl.size
      have hll : k.length + (grp u).length ≤ 1000000 := by rw [← List.length_append, hall]; exact hfit
      by_cases hs : u < 128
      · have hs' : (u : Int) ≤ 127 := by omega
        obtain ⟨c, rfl⟩ : ∃ c : UInt8, u = c.toNat := ⟨UInt8.ofNat u, (ofNat_toNat (by omega)).symm⟩
        have hgl := grp_pos c.toNat
        rw [grp_small hs, show UInt8.ofNat c.toNat = c from by simp] at hall
        replace hall := Lib.hid hall
        replace hu := Lib.hid hu
        replace hbl := Lib.hid hbl
        go_wp2_with (at_builtin; refine wpList_own1 rfl _ _ rfl c hown rfl rfl ?c1 (by omega) ?_)
        case c1 => omega
        intro v' w2 hown2 hb2
        rw [hall.out] at hown2
        go_wp2
        go_ret
        exact ⟨_, rfl, hown2, hbl.out.trans hb2⟩
      · have hs' : (127 : Int) < (u : Int) := by omega
        obtain ⟨c, hc⟩ : ∃ c, UInt8.ofNat (u % 128 + 128) = c := ⟨_, rfl⟩
        have ha := and64 u hu
        have he : bits .or .u8 ((u % 128 : Nat) : Int) 128 = (c.toNat : Int) := by
          rw [← hc, ofNat_toNat (by omega), or8 _ (by omega)]
          omega
        have hm : IntKind.u8.wrap ((u % 128 : Nat) : Int) = ((u % 128 : Nat) : Int) := by rw [IntKind.wrap_u8]; omega
        have hm2 : u % 128 < 128 := by omega
        have hd : (u : Int) / 128 = ((u / 128 : Nat) : Int) := by omega
        have hlt : u / 128 < u := by omega
        rw [grp_big hs, hc, List.append_cons] at hall
        have hgl := grp_pos u
        replace hall := Lib.hid hall
        replace hbl := Lib.hid hbl
        replace hd := Lib.hid hd
        replace hu := Lib.hid hu
        clear hc
        generalize u % 128 = r at ha he hm hm2
        go_wp2_with (at_builtin; refine wpList_own1 rfl _ _ rfl c hown rfl rfl ?c1 (by omega) ?_)
        case c1 => omega
        intro v' w2 hown2 hb2
        go_wp2
        go_roundw
        case rel => exact ⟨u / 128, by rw [← hd.out], by have := hu.out; omega, hfit, ⟨_, hown2, hall.out⟩, hbl.out.trans hb2⟩
        case measure => simp [intOf]; omega
  · have htw : n * 2 = (zz n : Nat) := by unfold zz; rw [if_neg hn]; omega
    replace htw := Lib.hid htw
    go_enter Try.func11, Try.ntmps11
    go_wp2_with (at_builtin; refine wpList_ownL rfl _ _ rfl l a0 cap (own_nil w.heap.size w) rfl rfl hS.nil hS.bytes (by simp; omega) (Nat.le_refl _) ?_)
    intro v w1 hown hb
    have hst1 := hst _ _ hown hb
    clear hst hown hb
    go_wp2
    go_loopw [0, 5] (fun v x wr => ∃ u : Nat, x = .int .u64 (u : Nat) ∧ Groups L w.heap.size w v u wr) (fun _ x _ => (intOf x).toNat)
    case atStart => exact ⟨zz n, by rw [htw.out], hst1⟩
    case round =>
      obtain ⟨u, rfl, ⟨hu, hfit, ⟨k, hown, hall⟩, hbl⟩⟩ := hrel
      clear hst1 hlt h0 h1 hn htw hS hl
      have hsz := hbl.size
      have hll : k.length + (grp u).length ≤ 1000000 := by rw [← List.length_append, hall]; exact hfit
      by_cases hs : u < 128
      · have hs' : (u : Int) ≤ 127 := by omega
        obtain ⟨c, rfl⟩ : ∃ c : UInt8, u = c.toNat := ⟨UInt8.ofNat u, (ofNat_toNat (by omega)).symm⟩
        have hgl := grp_pos c.toNat
        rw [grp_small hs, show UInt8.ofNat c.toNat = c from by simp] at hall
        replace hall := Lib.hid hall
        replace hu := Lib.hid hu
        replace hbl := Lib.hid hbl
        go_wp2_with (at_builtin; refine wpList_own1 rfl _ _ rfl c hown rfl rfl ?c1 (by omega) ?_)
        case c1 => omega
        intro v' w2 hown2 hb2
        rw [hall.out] at hown2
        go_wp2
        go_ret
        exact ⟨_, rfl, hown2, hbl.out.trans hb2⟩
      · have hs' : (127 : Int) < (u : Int) := by omega
        obtain ⟨c, hc⟩ : ∃ c, UInt8.ofNat (u % 128 + 128) = c := ⟨_, rfl⟩
        have ha := and64 u hu
        have he : bits .or .u8 ((u % 128 : Nat) : Int) 128 = (c.toNat : Int) := by
          rw [← hc, ofNat_toNat (by omega), or8 _ (by omega)]
          omega
        have hm : IntKind.u8.wrap ((u % 128 : Nat) : Int) = ((u % 128 : Nat) : Int) := by rw [IntKind.wrap_u8]; omega
        have hm2 : u % 128 < 128 := by omega
        have hd : (u : Int) / 128 = ((u / 128 : Nat) : Int) := by omega
        have hlt : u / 128 < u := by omega
        rw [grp_big hs, hc, List.append_cons] at hall
        have hgl := grp_pos u
        replace hall := Lib.hid hall
        replace hbl := Lib.hid hbl
        replace hd := Lib.hid hd
        replace hu := Lib.hid hu
        clear hc
        generalize u % 128 = r at ha he hm hm2
        go_wp2_with (at_builtin; refine wpList_own1 rfl _ _ rfl c hown rfl rfl ?c1 (by omega) ?_)
        case c1 => omega
        intro v' w2 hown2 hb2
        go_wp2
        go_roundw
        case rel => exact ⟨u / 128, by rw [← hd.out], by have := hu.out; omega, hfit, ⟨_, hown2, hall.out⟩, hbl.out.trans hb2⟩
        case measure => simp [intOf]; omega
set_option maxHeartbeats 4000000 in
theorem refBool_any (a0 : Option Addr) (l : List UInt8) (cap : Nat) (v : Bool) (w : World) (hl : l.length ≤ 900000) (hS : Src a0 l cap w) :
    Calls Try.prog 15 #[.slice a0 (l.length : Nat) cap, .bool v] w (MadeOwn (l ++ boolB v) w) := by
  cases v with
  | true =>
    go_enter Try.func15, Try.ntmps15
    go_wp2_with (at_builtin; refine wpList_ownL rfl _ _ rfl l a0 cap (own_nil w.heap.size w) rfl rfl hS.nil hS.bytes (by simp; omega) (Nat.le_refl _) ?_)
    intro v w1 hown hb
    have hsz := hb.size
    go_wp2_with (at_builtin; refine wpList_own1 rfl _ _ rfl 1 hown rfl rfl ?c1 (by omega) ?_)
    case c1 => omega
    intro v' w2 hown2 hb2
    go_wp2
    go_ret
    exact ⟨_, rfl, hown2, hb.trans hb2⟩
  | false =>
    go_enter Try.func15, Try.ntmps15
    go_wp2_with (at_builtin; refine wpList_ownL rfl _ _ rfl l a0 cap (own_nil w.heap.size w) rfl rfl hS.nil hS.bytes (by simp; omega) (Nat.le_refl _) ?_)
    intro v w1 hown hb
    have hsz := hb.size
    go_wp2_with (at_builtin; refine wpList_own1 rfl _ _ rfl 0 hown rfl rfl ?c1 (by omega) ?_)
    case c1 => omega
    intro v' w2 hown2 hb2
    go_wp2
    go_ret
    exact ⟨_, rfl, hown2, hb.trans hb2⟩
set_option maxHeartbeats 4000000 in
theorem refText_any (a0 : Option Addr) (l : List UInt8) (cap : Nat) (s : ByteArray) (w : World) (hl : l.length ≤ 900000) (hs : s.size ≤ 90000) (hS : Src a0 l cap w) :
    Calls Try.prog 17 #[.slice a0 (l.length : Nat) cap, .string s] w (MadeOwn (l ++ textB s) w) := by
  have hg := Lib.hid (fun W => refNumber_any a0 l cap (s.size : Int) W hl)
  have hlen := numB_len (s.size : Int) (by omega) (by omega)
  have ht : l ++ textB s = (l ++ numB (s.size : Int)) ++ s.data.toList := by rw [List.append_assoc]; rfl
  have hll : (l ++ numB (s.size : Int)).length ≤ 900010 := by rw [List.length_append]; omega
  rw [ht]
  have hg := Lib.hid (refNumber_any a0 l cap (s.size : Int) w hl hS (by omega) (by omega))
  generalize l ++ numB (s.size : Int) = L at hg hll ⊢
  clear ht hlen
  obtain ⟨i0, hi, hz0, hz1, hz2⟩ := info_parts infoByte
  go_enter Try.func17, Try.ntmps17
  go_wp2_with (go_at_call 11; refine hg.out.mono ?_)
  rintro e w1 ⟨v1, rfl, hown, hb⟩
  have hsz := hb.size
  go_wp2_with (at_builtin; refine Lib.wpList_append_own_string _ rfl _ _ 22 9 rfl w.heap.size 5 i0 Try.underlying22 Try.underlying9 hi hz0 hz1 hz2 _ _ _ rfl hown s rfl ?c3 ?c4 ?c5 ?_)
  case c3 => unfold maxLen; omega
  case c4 => omega
  case c5 => exact hsz
  intro v2 w2 hown2 hgrow _
  have hown3 : Own w.heap.size v2 (L ++ s.data.toList) w2 := by
    unfold Own
    rw [Lib.byteCells_append, List.length_append]
    exact hown2
  have hb2 : Below w.heap.size w1 w2 := (Below.refl _ w1).grown hgrow hsz (fun k hk => (World.ownsRow.lt hown k hk).1)
  go_wp2
  go_ret
  exact ⟨_, rfl, hown3, hb.trans hb2⟩
set_option maxHeartbeats 8000000 in
theorem refWord_any (a0 : Option Addr) (l : List UInt8) (cap : Nat) (n : Nat) (w : World) (hl : l.length ≤ 900000) (hn : n < 18446744073709551616) (hS : Src a0 l cap w) :
    Calls Try.prog 13 #[.slice a0 (l.length : Nat) cap, .int .u64 (n : Nat)] w (MadeOwn (l ++ lenB n) w) := by
  replace hn := Lib.hid hn
  go_enter Try.func13, Try.ntmps13
  go_wp2_with (at_builtin; refine wpList_ownL rfl _ _ rfl l a0 cap (own_nil w.heap.size w) rfl rfl hS.nil hS.bytes (by simp; omega) (Nat.le_refl _) ?_)
  intro v w1 hown hb
  go_wp2
  go_loopw [0, 5] (fun v i wr => ∃ j : Nat, j ≤ 8 ∧ i = .int .i64 (56 - 8 * (j : Int)) ∧ Own w.heap.size v (l ++ (lenB n).take j) wr ∧ Below w.heap.size w wr) (fun _ i _ => ((intOf i) + 8).toNat)
  case atStart => exact ⟨0, Nat.zero_le _, by simp, by simpa using hown, hb⟩
  case round =>
    obtain ⟨j, hj, rfl, hown1, hbl1⟩ := hrel
    clear hown hb
    have hsz1 := hbl1.size
    have hl1 : (l ++ (lenB n).take j).length ≤ 900008 := by
      rw [List.length_append, List.length_take]
      have := lenB_length n
      omega
    by_cases hj8 : j < 8
    · have q : (0 : Int) ≤ 56 - 8 * (j : Int) := by omega
      have hlb := lenB_take n j hj8
      obtain ⟨c, hce⟩ : ∃ c, UInt8.ofNat (n / 2 ^ (56 - 8 * j)) = c := ⟨_, rfl⟩
      have he : (n : Int) / 2 ^ (56 - 8 * j) % 256 = (c.toNat : Int) := by
        rw [← hce, UInt8.toNat_ofNat', Int.natCast_emod, Int.natCast_ediv, Int.natCast_pow]
        rfl
      rw [hce] at hlb
      replace hlb := Lib.hid hlb
      clear hce
      go_wp2_with (at_builtin; refine wpList_own1 rfl _ _ rfl c hown1 rfl rfl ?c1 (by omega) ?_)
      case c1 => omega
      intro v' w2 hown2 hb2
      have hz2 := hb2.size
      go_wp2
      go_roundw
      case rel => exact ⟨j + 1, by omega, by go_num, by rw [hlb.out, ← List.append_assoc]; simpa using hown2, hbl1.trans hb2⟩
      case measure => simp [intOf]; omega
    · obtain rfl : j = 8 := by omega
      rw [List.take_of_length_le (by rw [lenB_length]; omega)] at hown1
      go_wp2
      go_ret
      exact ⟨_, rfl, hown1, hbl1⟩
end Go.Proofs.Ytkmnmddengnjlaa
