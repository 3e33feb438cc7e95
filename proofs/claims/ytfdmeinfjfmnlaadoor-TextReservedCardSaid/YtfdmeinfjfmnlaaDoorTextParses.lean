/- TextParses: for every text and every slice of bytes, text.ParseNumber and the document's answer agree on the six texts that the statement makes. -/
import Derived.Test.YtfdmeinfjfmnlaaDoorTextUnq
namespace Go.Proofs.YtfdmeinfjfmnlaaDoor
open Go Go.RowKit

theorem parseV_form (x : ByteArray) : ∃ a e, parseV x = .tuple #[.int .i64 a, .int .i64 e] := by
  unfold parseV parseD
  split
  · exact ⟨_, _, rfl⟩
  · split
    · exact ⟨_, _, rfl⟩
    · exact ⟨_, _, rfl⟩
/-- A slice of bytes that came in, or a part of one: what its places hold. -/
def BytesIn (a0 : Option Addr) (len : Nat) (w : World) : Prop := ∀ i, i < len → ∃ (b off : Nat) (c : UInt8), a0 = some ⟨b, off, none⟩ ∧ b < w.heap.size ∧ w.cell? ⟨b, off + i, none⟩ = some (.int .u8 (c.toNat : Int))

set_option maxHeartbeats 8000000 in
set_option maxRecDepth 100000 in
theorem parses_walk (s : ByteArray) (a0 : Option Addr) (len cap : Nat) (w : World) (E : Env w) (hs : s.size ≤ 140737488351232) (hlc : len ≤ cap) (hcm : cap ≤ 9223372036854775807) (hB : BytesIn a0 len w) :
    Calls Tryd.prog 9 #[.string s, .slice a0 len cap] w fun e w' => e = .returned (.bool true) ∧ Below w.heap.size w w' := by
  have B := Below.refl w.heap.size w
  have z1 : (⟨#[45]⟩ : ByteArray).size = 1 := rfl
  have z2 : (⟨#[48]⟩ : ByteArray).size = 1 := rfl
  have z3 : (⟨#[49]⟩ : ByteArray).size = 1 := rfl
  obtain ⟨n, hn60, hnl, hn⟩ : ∃ n, n ≤ 60 ∧ n ≤ len ∧ ((60 < len ∧ n = 60) ∨ (len ≤ 60 ∧ n = len)) := by
    by_cases h : 60 < len
    · exact ⟨60, by omega, by omega, .inl ⟨h, rfl⟩⟩
    · exact ⟨len, by omega, by omega, .inr ⟨by omega, rfl⟩⟩
  have hBn : BytesIn a0 n w := fun i hi => hB i (by omega)
  clear hB
  rcases hn with ⟨hgt, rfl⟩ | ⟨hle, rfl⟩
  · have hd : decide ((60 : Int) < (len : Int)) = true := by simp; omega
    go_enter Tryd.func9, Tryd.ntmps9
    have hBB := Lib.hid hBn
    clear hBn
    go_wp2_with (go_at_call 10; refine (awake_any _ E).mono ?_; rintro e W ⟨rfl, hb⟩; replace E := E.below hb; replace B := B.trans (hb.mono B.size); clear hb)
    obtain ⟨n, hn⟩ : ∃ n : Nat, n = 60 := ⟨_, rfl⟩
    rw [← hn] at hBB ⊢
    replace hn60 : n ≤ 60 := by omega
    clear hnl hlc hcm hn
    go_loop [5, 6] (fun v i => ∃ (k : Nat) (t : ByteArray), k ≤ n ∧ i = .int .i64 k ∧ v = .string t ∧ t.size = k) (fun _ i => n - (intOf i).toNat)
    case atStart => exact ⟨0, ⟨#[]⟩, by omega, rfl, rfl, rfl⟩
    case round =>
      obtain ⟨k, t, hk, rfl, rfl, ht⟩ := hrel
      by_cases hlt : k < n
      · obtain ⟨b, off, c, hae, hbl, hcc⟩ := hBB.out k hlt
        have hcW := cell_below hcc B
        subst hae
        have hcl := c.toNat_lt
        have henc := encode_low (48 + (c.toNat : Int) % 10) (by omega) (by omega)
        obtain ⟨y, hy⟩ : ∃ y : ByteArray, y = ⟨#[UInt8.ofNat (48 + (c.toNat : Int) % 10).toNat]⟩ := ⟨_, rfl⟩
        rw [← hy] at henc
        have hys : y.size = 1 := by rw [hy]; rfl
        replace hy := Lib.hid hy
        have hts : t.size ≤ 60 := by omega
        clear hcc
        go_wp2
        go_round
        case rel => exact ⟨k + 1, t ++ y, by omega, by go_num, rfl, by rw [ByteArray.size_append]; omega⟩
        case measure => simp [intOf]; omega
      · obtain rfl : k = n := by omega
        have hts : t.size ≤ 60 := by omega
        have z4 : (⟨#[49]⟩ ++ t : ByteArray).size = 1 + t.size := by rw [ByteArray.size_append]; omega
        clear hk ht
        go_wp2
        clear hlt
        obtain ⟨L, hL⟩ : ∃ L : List ByteArray, L = [s, t, ⟨#[45]⟩ ++ t, ⟨#[48]⟩ ++ t, t ++ s, ⟨#[49]⟩ ++ t ++ ⟨#[48]⟩] := ⟨_, rfl⟩
        have hLs : ∀ (i : Nat) (h : i < L.length), L[i].size ≤ 9223372036854775807 := by
          have : ∀ x ∈ L, x.size ≤ 9223372036854775807 := by
            rw [hL]
            simp only [List.mem_cons, List.not_mem_nil, or_false]
            rintro x (rfl | rfl | rfl | rfl | rfl | rfl)
            · omega
            · omega
            · rw [ByteArray.size_append]; omega
            · rw [ByteArray.size_append]; omega
            · rw [ByteArray.size_append]; omega
            · rw [ByteArray.size_append]; omega
          exact fun i h => this _ (List.getElem_mem h)
        have hlen : L.length = 6 := by rw [hL]; rfl
        have hW1 : W.alloc (.cells (L.map Value.string).toArray 9) = W.alloc (.cells #[.string (s), .string (t), .string (⟨#[45]⟩ ++ t), .string (⟨#[48]⟩ ++ t), .string (t ++ s), .string (⟨#[49]⟩ ++ t ++ ⟨#[48]⟩)] 9) := by rw [hL]; rfl
        have hS := strsAt_alloc L W 9
        have hbW : Below W.heap.size W (W.alloc (.cells (L.map Value.string).toArray 9)) := (Below.refl _ W).alloc (Nat.le_refl _) _
        rw [hW1] at hS hbW
        have E1 := E.below hbW
        have B1 := B.trans (hbW.mono B.size)
        clear hW1 hL hbW
        generalize W.alloc (.cells #[.string (s), .string (t), .string (⟨#[45]⟩ ++ t), .string (⟨#[48]⟩ ++ t), .string (t ++ s), .string (⟨#[49]⟩ ++ t ++ ⟨#[48]⟩)] 9) = W1 at hS E1 B1 ⊢
        obtain ⟨b, off, hbl, hv, hcell⟩ := hS
        rw [hlen] at hv
        obtain ⟨rfl, rfl⟩ : b = W.heap.size ∧ off = 0 := by
          simp only [Value.slice.injEq, Option.some.injEq, Addr.mk.injEq] at hv
          exact ⟨hv.1.1.symm, hv.1.2.1.symm⟩
        clear hv E B z1 z2 z3 z4 hs hts
        go_loopw [50] (fun i wr => ∃ k : Nat, k ≤ 6 ∧ i = .int .i64 k ∧ Below W1.heap.size W1 wr) (fun i _ => 6 - (intOf i).toNat)
        case atStart => exact ⟨0, by omega, rfl, Below.refl _ _⟩
        case round =>
          obtain ⟨j, hj, rfl, hbw⟩ := hrel
          by_cases hlt : j < 6
          · have hjl : j < L.length := by omega
            have hc1 := cell_below (hcell j hjl) hbw
            rw [Nat.zero_add] at hc1
            have E2 := E1.below hbw
            have hxs := hLs j hjl
            generalize L[j] = x at hc1 hxs
            replace hcell := Lib.hid hcell
            replace hLs := Lib.hid hLs
            replace hlen := Lib.hid hlen
            have xx : (x.toList == x.toList) = true := by simp
            obtain ⟨a, e, hpv⟩ := parseV_form x
            have hP : ∀ V, Env V → Calls Tryd.prog 23 #[.string x] V fun e' w' => e' = .returned (.tuple #[.int .i64 a, .int .i64 e]) ∧ Below V.heap.size V w' := fun V _ => by
              have := parse_any x V
              rw [hpv] at this
              exact this
            have hR : ∀ V, Env V → Calls Tryd.prog 25 #[.string x] V fun e' w' => e' = .returned (.tuple #[.int .i64 a, .int .i64 e]) ∧ Below V.heap.size V w' := fun V _ => by
              have := refParse_any x V hxs
              rw [hpv] at this
              exact this.mono fun e' w' h => ⟨h.1, h.2 ▸ Below.refl _ _⟩
            have aa : (a != a) = false := by simp
            have ee : (e != e) = false := by simp
            have B2 := hbw
            replace hbw := Lib.hid hbw
            replace hpv := Lib.hid hpv
            go_wp2_with (first
              | (go_at_call 23; refine (hP _ E2).mono ?_; rintro e V ⟨rfl, hb⟩; replace E2 := E2.below hb; replace B2 := B2.trans (hb.mono B2.size); clear hb)
              | (go_at_call 25; refine (hR _ E2).mono ?_; rintro e V ⟨rfl, hb⟩; replace E2 := E2.below hb; replace B2 := B2.trans (hb.mono B2.size); clear hb))
            go_roundw
            case rel => exact ⟨j + 1, by omega, by go_num, B2⟩
            case measure => simp [intOf]; omega
          · obtain rfl : j = 6 := by omega
            go_wp2
            go_ret
            exact ⟨rfl, B1.trans (hbw.mono B1.size)⟩

  · have hd : decide ((60 : Int) < (n : Int)) = false := by simp; omega
    go_enter Tryd.func9, Tryd.ntmps9
    have hBB := Lib.hid hBn
    clear hBn
    go_wp2_with (go_at_call 10; refine (awake_any _ E).mono ?_; rintro e W ⟨rfl, hb⟩; replace E := E.below hb; replace B := B.trans (hb.mono B.size); clear hb)
    clear hnl hlc hcm hd
    go_loop [5, 6] (fun v i => ∃ (k : Nat) (t : ByteArray), k ≤ n ∧ i = .int .i64 k ∧ v = .string t ∧ t.size = k) (fun _ i => n - (intOf i).toNat)
    case atStart => exact ⟨0, ⟨#[]⟩, by omega, rfl, rfl, rfl⟩
    case round =>
      obtain ⟨k, t, hk, rfl, rfl, ht⟩ := hrel
      by_cases hlt : k < n
      · obtain ⟨b, off, c, hae, hbl, hcc⟩ := hBB.out k hlt
        have hcW := cell_below hcc B
        subst hae
        have hcl := c.toNat_lt
        have henc := encode_low (48 + (c.toNat : Int) % 10) (by omega) (by omega)
        obtain ⟨y, hy⟩ : ∃ y : ByteArray, y = ⟨#[UInt8.ofNat (48 + (c.toNat : Int) % 10).toNat]⟩ := ⟨_, rfl⟩
        rw [← hy] at henc
        have hys : y.size = 1 := by rw [hy]; rfl
        replace hy := Lib.hid hy
        have hts : t.size ≤ 60 := by omega
        clear hcc
        go_wp2
        go_round
        case rel => exact ⟨k + 1, t ++ y, by omega, by go_num, rfl, by rw [ByteArray.size_append]; omega⟩
        case measure => simp [intOf]; omega
      · obtain rfl : k = n := by omega
        have hts : t.size ≤ 60 := by omega
        have z4 : (⟨#[49]⟩ ++ t : ByteArray).size = 1 + t.size := by rw [ByteArray.size_append]; omega
        clear hk ht
        go_wp2
        clear hlt
        obtain ⟨L, hL⟩ : ∃ L : List ByteArray, L = [s, t, ⟨#[45]⟩ ++ t, ⟨#[48]⟩ ++ t, t ++ s, ⟨#[49]⟩ ++ t ++ ⟨#[48]⟩] := ⟨_, rfl⟩
        have hLs : ∀ (i : Nat) (h : i < L.length), L[i].size ≤ 9223372036854775807 := by
          have : ∀ x ∈ L, x.size ≤ 9223372036854775807 := by
            rw [hL]
            simp only [List.mem_cons, List.not_mem_nil, or_false]
            rintro x (rfl | rfl | rfl | rfl | rfl | rfl)
            · omega
            · omega
            · rw [ByteArray.size_append]; omega
            · rw [ByteArray.size_append]; omega
            · rw [ByteArray.size_append]; omega
            · rw [ByteArray.size_append]; omega
          exact fun i h => this _ (List.getElem_mem h)
        have hlen : L.length = 6 := by rw [hL]; rfl
        have hW1 : W.alloc (.cells (L.map Value.string).toArray 9) = W.alloc (.cells #[.string (s), .string (t), .string (⟨#[45]⟩ ++ t), .string (⟨#[48]⟩ ++ t), .string (t ++ s), .string (⟨#[49]⟩ ++ t ++ ⟨#[48]⟩)] 9) := by rw [hL]; rfl
        have hS := strsAt_alloc L W 9
        have hbW : Below W.heap.size W (W.alloc (.cells (L.map Value.string).toArray 9)) := (Below.refl _ W).alloc (Nat.le_refl _) _
        rw [hW1] at hS hbW
        have E1 := E.below hbW
        have B1 := B.trans (hbW.mono B.size)
        clear hW1 hL hbW
        generalize W.alloc (.cells #[.string (s), .string (t), .string (⟨#[45]⟩ ++ t), .string (⟨#[48]⟩ ++ t), .string (t ++ s), .string (⟨#[49]⟩ ++ t ++ ⟨#[48]⟩)] 9) = W1 at hS E1 B1 ⊢
        obtain ⟨b, off, hbl, hv, hcell⟩ := hS
        rw [hlen] at hv
        obtain ⟨rfl, rfl⟩ : b = W.heap.size ∧ off = 0 := by
          simp only [Value.slice.injEq, Option.some.injEq, Addr.mk.injEq] at hv
          exact ⟨hv.1.1.symm, hv.1.2.1.symm⟩
        clear hv E B z1 z2 z3 z4 hs hts
        go_loopw [50] (fun i wr => ∃ k : Nat, k ≤ 6 ∧ i = .int .i64 k ∧ Below W1.heap.size W1 wr) (fun i _ => 6 - (intOf i).toNat)
        case atStart => exact ⟨0, by omega, rfl, Below.refl _ _⟩
        case round =>
          obtain ⟨j, hj, rfl, hbw⟩ := hrel
          by_cases hlt : j < 6
          · have hjl : j < L.length := by omega
            have hc1 := cell_below (hcell j hjl) hbw
            rw [Nat.zero_add] at hc1
            have E2 := E1.below hbw
            have hxs := hLs j hjl
            generalize L[j] = x at hc1 hxs
            replace hcell := Lib.hid hcell
            replace hLs := Lib.hid hLs
            replace hlen := Lib.hid hlen
            have xx : (x.toList == x.toList) = true := by simp
            obtain ⟨a, e, hpv⟩ := parseV_form x
            have hP : ∀ V, Env V → Calls Tryd.prog 23 #[.string x] V fun e' w' => e' = .returned (.tuple #[.int .i64 a, .int .i64 e]) ∧ Below V.heap.size V w' := fun V _ => by
              have := parse_any x V
              rw [hpv] at this
              exact this
            have hR : ∀ V, Env V → Calls Tryd.prog 25 #[.string x] V fun e' w' => e' = .returned (.tuple #[.int .i64 a, .int .i64 e]) ∧ Below V.heap.size V w' := fun V _ => by
              have := refParse_any x V hxs
              rw [hpv] at this
              exact this.mono fun e' w' h => ⟨h.1, h.2 ▸ Below.refl _ _⟩
            have aa : (a != a) = false := by simp
            have ee : (e != e) = false := by simp
            have B2 := hbw
            replace hbw := Lib.hid hbw
            replace hpv := Lib.hid hpv
            go_wp2_with (first
              | (go_at_call 23; refine (hP _ E2).mono ?_; rintro e V ⟨rfl, hb⟩; replace E2 := E2.below hb; replace B2 := B2.trans (hb.mono B2.size); clear hb)
              | (go_at_call 25; refine (hR _ E2).mono ?_; rintro e V ⟨rfl, hb⟩; replace E2 := E2.below hb; replace B2 := B2.trans (hb.mono B2.size); clear hb))
            go_roundw
            case rel => exact ⟨j + 1, by omega, by go_num, B2⟩
            case measure => simp [intOf]; omega
          · obtain rfl : j = 6 := by omega
            go_wp2
            go_ret
            exact ⟨rfl, B1.trans (hbw.mono B1.size)⟩
end Go.Proofs.YtfdmeinfjfmnlaaDoor
