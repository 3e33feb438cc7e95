/- TextKeys: for every text, number and byte, text.Key and the document's answer agree on the six texts that the statement makes. -/
import Derived.Test.YtfdmeinfjfmnlaaDoorAwake
import Derived.Lib.QuietBelow
import Derived.Deep.QuietTactic
import Derived.BigQuiet
import Derived.Laws.Cover4
namespace Go.Proofs.YtfdmeinfjfmnlaaDoor
open Go Go.RowKit

theorem StrsAt.at {v : Value} {W : List ByteArray} {w : World} (h : StrsAt v W w) : ∃ b off, v = .slice (some ⟨b, off, none⟩) W.length W.length ∧ b < w.heap.size ∧ ∀ (i : Nat) (h : i < W.length), w.cell? ⟨b, off + i, none⟩ = some (.string W[i]) := by
  obtain ⟨b, off, h1, h2, h3⟩ := h
  exact ⟨b, off, h2, h1, h3⟩
/-- text.Key, in any world behind one in which the variables are as laid. -/
theorem key_grown {w : World} (E : Env w) (s : ByteArray) (hm : s.size ≤ 9223372036854775807) (d : Nat) (os : Array Obj) :
    Calls Tryd.prog 11 #[.string s] (Sort.grow (redrawn w d) os) fun e w' => e = .returned (.bool (keyB words s)) ∧ ∃ p : Regrown, w' = Sort.grow (redrawn w p.d) p.os :=
  Calls.regrown_of (key_env (E.below (below_regrown w d os)) s hm)
theorem refKey_grown {w : World} (s : ByteArray) (hm : s.size ≤ 9223372036854775807) (d : Nat) (os : Array Obj) :
    Calls Tryd.prog 12 #[.string s] (Sort.grow (redrawn w d) os) fun e w' => e = .returned (.bool (keyB words s)) ∧ ∃ p : Regrown, w' = Sort.grow (redrawn w p.d) p.os :=
  Calls.regrown_of (refKey_any s _ hm)

theorem tmod_range (n : Int) (k : Nat) (hk : 0 < k) : -(k : Int) < n.tmod k ∧ n.tmod k < k := by
  rcases Int.le_total 0 n with h | h
  · rw [Int.tmod_eq_emod_of_nonneg h]
    have := Int.emod_nonneg n (show (k : Int) ≠ 0 by omega)
    have := Int.emod_lt_of_pos n (show (0 : Int) < k by omega)
    omega
  · obtain ⟨m, rfl⟩ : ∃ m : Nat, n = -(m : Int) := ⟨n.natAbs, by omega⟩
    rw [Int.neg_tmod]
    have e : (m : Int).tmod (k : Int) = ((m % k : Nat) : Int) := rfl
    rw [e]
    have := Nat.mod_lt m hk
    omega

set_option maxHeartbeats 8000000 in
set_option maxRecDepth 100000 in
theorem keys_walk (s : ByteArray) (n c : Int) (w : World) (E : Env w) (hs : s.size ≤ 140737488351232) (_hn : -9223372036854775808 ≤ n ∧ n ≤ 9223372036854775807) (hc : 0 ≤ c ∧ c ≤ 255) :
    Calls Tryd.prog 3 #[.string s, .int .i64 n, .int .u8 c] w fun e w' => e = .returned (.bool true) ∧ Below w.heap.size w w' := by
  obtain ⟨c0, c1⟩ := hc
  have B := Below.refl w.heap.size w
  obtain ⟨m, hm⟩ : ∃ m, n.tmod 40 = m := ⟨_, rfl⟩
  have hmr := tmod_range n 40 (by omega)
  rw [show ((40 : Nat) : Int) = 40 from rfl, hm] at hmr
  obtain ⟨m0, m1⟩ := hmr
  have hec := encode_size_le c
  clear _hn
  go_enter Tryd.func3, Tryd.ntmps3
  go_wp2_with (go_at_call 10; refine (awake_any _ E).mono ?_; rintro e W ⟨rfl, hb⟩; replace E := E.below hb; replace B := B.trans (hb.mono B.size); clear hb)
  have hN0 : 0 ≤ (m + 40) % 40 := by omega
  have hN1 : (m + 40) % 40 < 40 := by omega
  generalize (m + 40) % 40 = N at hN0 hN1
  clear hm m0 m1
  go_loop [7, 8] (fun x i => ∃ (k : Nat) (t : ByteArray), (k : Int) ≤ N ∧ i = .int .i64 k ∧ x = .string t ∧ t.size = k) (fun _ i => 40 - (intOf i).toNat)
  case atStart => exact ⟨0, ⟨#[]⟩, by omega, rfl, rfl, rfl⟩
  case round =>
    obtain ⟨k, t, hk, rfl, rfl, ht⟩ := hrel
    by_cases hlt : (k : Int) < N
    · have henc := encode_low (97 + (k : Int) % 26) (by omega) (by omega)
      obtain ⟨y, hy⟩ : ∃ y : ByteArray, y = ⟨#[UInt8.ofNat (97 + (k : Int) % 26).toNat]⟩ := ⟨_, rfl⟩
      rw [← hy] at henc
      have hys : y.size = 1 := by rw [hy]; rfl
      replace hy := Lib.hid hy
      have hts : t.size ≤ 40 := by omega
      go_wp2
      go_round
      case rel => exact ⟨k + 1, t ++ y, by omega, by go_num, rfl, by rw [ByteArray.size_append]; omega⟩
      case measure => simp [intOf]; omega
    · have hts : t.size ≤ 40 := by omega
      clear hk ht
      go_wp2
      obtain ⟨L, hL⟩ : ∃ L : List ByteArray, L = [s, t, t ++ Utf8.encode c, Utf8.encode c ++ t, ⟨#[97]⟩ ++ s, s ++ ⟨#[48]⟩] := ⟨_, rfl⟩
      have hLs : ∀ (i : Nat) (h : i < L.length), L[i].size ≤ 9223372036854775807 := by
        have : ∀ x ∈ L, x.size ≤ 9223372036854775807 := by
          rw [hL]
          simp only [List.mem_cons, List.not_mem_nil, or_false]
          rintro x (rfl | rfl | rfl | rfl | rfl | rfl)
          all_goals (try simp only [ByteArray.size_append])
          all_goals (try (have h1 : (⟨#[97]⟩ : ByteArray).size = 1 := rfl))
          all_goals (try (have h2 : (⟨#[48]⟩ : ByteArray).size = 1 := rfl))
          all_goals omega
        exact fun i h => this _ (List.getElem_mem h)
      have hS := strsAt_alloc L W 9
      have hlen : L.length = 6 := by rw [hL]; rfl
      have hW1 : W.alloc (.cells (L.map Value.string).toArray 9) = W.alloc (.cells #[.string s, .string t, .string (t ++ Utf8.encode c), .string (Utf8.encode c ++ t), .string (⟨#[97]⟩ ++ s), .string (s ++ ⟨#[48]⟩)] 9) := by rw [hL]; rfl
      rw [hW1] at hS
      have hbW : Below W.heap.size W (W.alloc (.cells #[.string s, .string t, .string (t ++ Utf8.encode c), .string (Utf8.encode c ++ t), .string (⟨#[97]⟩ ++ s), .string (s ++ ⟨#[48]⟩)] 9)) := (Below.refl _ W).alloc (Nat.le_refl _) _
      have E1 := E.below hbW
      have B1 := B.trans (hbW.mono B.size)
      clear hW1 hL hbW
      generalize W.alloc (.cells #[.string s, .string t, .string (t ++ Utf8.encode c), .string (Utf8.encode c ++ t), .string (⟨#[97]⟩ ++ s), .string (s ++ ⟨#[48]⟩)] 9) = W1 at hS E1 B1 ⊢
      obtain ⟨b, off, hbl, hv, hcell⟩ := hS
      rw [hlen] at hv
      obtain ⟨rfl, rfl⟩ : b = W.heap.size ∧ off = 0 := by
        simp only [Value.slice.injEq, Option.some.injEq, Addr.mk.injEq] at hv
        exact ⟨hv.1.1.symm, hv.1.2.1.symm⟩
      clear hv E B hec hts hlt
      go_loopw [10] (fun i wr => ∃ k : Nat, k ≤ 6 ∧ i = .int .i64 k ∧ Below W1.heap.size W1 wr) (fun i _ => 6 - (intOf i).toNat)
      case atStart => exact ⟨0, by omega, rfl, Below.refl _ _⟩
      case round =>
        obtain ⟨j, hj, rfl, hbw⟩ := hrel
        by_cases hlt : j < 6
        · have hjl : j < L.length := by omega
          have hc1 := cell_below (hcell j hjl) hbw
          rw [Nat.zero_add] at hc1
          have hck : ∀ d os, (Sort.grow (redrawn wr d) os).cell? ⟨W.heap.size, j, none⟩ = some (.string L[j]) := fun d os => cell_regrown hc1 d os
          have E2 := E1.below hbw
          have cK := key_grown E2 L[j] (hLs j hjl)
          have cR := refKey_grown (w := wr) L[j] (hLs j hjl)
          replace hcell := Lib.hid hcell
          replace hc1 := Lib.hid hc1
          replace hLs := Lib.hid hLs
          replace hlen := Lib.hid hlen
          go_wp2
          refine wp_region_quiet_below (by kernel_rfl) (by kernel_rfl) ?_
          repeat (quiet_step (first | exact cK _ _ | exact cR _ _))
          refine wpQuiet_nil ?_
          intro _ hw'
          obtain ⟨⟨dq, osq⟩, hw''⟩ := hw'
          subst hw''
          have hb2 := below_regrown wr dq osq
          generalize Sort.grow (redrawn wr dq) osq = w2 at hb2 ⊢
          clear hck cK cR
          go_wp2
          go_roundw
          case rel => exact ⟨j + 1, by omega, by go_num, hbw.trans (hb2.mono hbw.size)⟩
          case measure => simp [intOf]; omega
        · obtain rfl : j = 6 := by omega
          go_wp2
          go_ret
          exact ⟨rfl, B1.trans (hbw.mono B1.size)⟩
end Go.Proofs.YtfdmeinfjfmnlaaDoor
