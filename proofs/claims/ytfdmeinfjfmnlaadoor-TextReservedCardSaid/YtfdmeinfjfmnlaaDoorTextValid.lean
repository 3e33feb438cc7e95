/- TextValid: for every text, number and byte, text.Valid and the document's answer agree on the four texts that the statement makes. -/
import Derived.Test.YtfdmeinfjfmnlaaDoorTextKeys
import Derived.RegionTactic
import Derived.ChangeAlike
namespace Go.Proofs.YtfdmeinfjfmnlaaDoor
open Go Go.RowKit

theorem valid_grown {w : World} (E : Env w) (s : ByteArray) (hm : s.size ≤ 9223372036854775807) (d : Nat) (os : Array Obj) :
    Calls Tryd.prog 16 #[.string s] (Sort.grow (redrawn w d) os) fun e w' => e = .returned (.bool (validB s)) ∧ ∃ p : Regrown, w' = Sort.grow (redrawn w p.d) p.os :=
  Calls.regrown_of (valid_any s _ hm (E.tabs.below (below_regrown w d os)))
theorem refValid_grown {w : World} (E : Env w) (s : ByteArray) (hm : s.size ≤ 9223372036854775807) (d : Nat) (os : Array Obj) :
    Calls Tryd.prog 17 #[.string s] (Sort.grow (redrawn w d) os) fun e w' => e = .returned (.bool (validB s)) ∧ ∃ p : Regrown, w' = Sort.grow (redrawn w p.d) p.os :=
  Calls.regrown_of (refValid_any s _ hm (E.tabs.below (below_regrown w d os)))
theorem StrsAt.below {v : Value} {W : List ByteArray} {w w' : World} (h : StrsAt v W w) (hb : Below w.heap.size w w') : StrsAt v W w' := by
  obtain ⟨b, off, h1, h2, h3⟩ := h
  exact ⟨b, off, Nat.lt_of_lt_of_le h1 hb.size, h2, fun i hi => cell_below (h3 i hi) hb⟩
/-- How far a text is from a length. -/
def strLeft (n : Nat) : Value → Nat
  | .string s => n - s.size
  | _ => 0

set_option maxHeartbeats 8000000 in
set_option maxRecDepth 100000 in
theorem valid_walk (s : ByteArray) (n c : Int) (w : World) (E : Env w) (hs : s.size ≤ 140737488351232) (_hn : -9223372036854775808 ≤ n ∧ n ≤ 9223372036854775807) (hc : 0 ≤ c ∧ c ≤ 255) :
    Calls Tryd.prog 5 #[.string s, .int .i64 n, .int .u8 c] w fun e w' => e = .returned (.bool true) ∧ Below w.heap.size w w' := by
  obtain ⟨ch, rfl⟩ : ∃ ch : UInt8, c = (ch.toNat : Int) := ⟨UInt8.ofNat c.toNat, by rw [UInt8.toNat_ofNat']; omega⟩
  clear hc
  have B := Below.refl w.heap.size w
  obtain ⟨m, hm⟩ : ∃ m, n.tmod 7 = m := ⟨_, rfl⟩
  have hmr := tmod_range n 7 (by omega)
  rw [show ((7 : Nat) : Int) = 7 from rfl, hm] at hmr
  obtain ⟨m0, m1⟩ := hmr
  clear _hn
  go_enter Tryd.func5, Tryd.ntmps5
  go_wp2_with (go_at_call 10; refine (awake_any _ E).mono ?_; rintro e W ⟨rfl, hb⟩; replace E := E.below hb; replace B := B.trans (hb.mono B.size); clear hb)
  have hN0 : 0 ≤ (m + 7) % 7 := by omega
  have hN1 : (m + 7) % 7 < 7 := by omega
  generalize (m + 7) % 7 = N at hN0 hN1
  clear hm m0 m1
  go_loop [7] (fun x => ∃ t : ByteArray, x = .string t ∧ t.size ≤ 204) (fun x => strLeft 300 x)
  case atStart => exact ⟨⟨#[]⟩, rfl, by decide⟩
  case round =>
    obtain ⟨t, rfl, ht⟩ := hrel
    by_cases hlt : (t.size : Int) < 197 + N
    · go_wp2
      go_round
      case rel => exact ⟨t ++ ⟨#[120]⟩, rfl, by rw [ByteArray.size_append]; show t.size + 1 ≤ 204; omega⟩
      case measure =>
        show 300 - (t ++ ⟨#[120]⟩ : ByteArray).size < 300 - t.size
        rw [ByteArray.size_append]
        show 300 - (t.size + 1) < _
        omega
    · have hge : (190 : Int) ≤ (t.size : Int) := by omega
      have hown : Own W.heap.size (.slice (some ⟨W.heap.size, 0, none⟩) 1 1) [ch] (W.alloc (.cells #[.int .u8 (ch.toNat : Int)] 5)).drew :=
        (own_made W.heap.size [ch] W (Nat.le_refl _) (by simp)).below (Below.drew (Below.refl _ _))
      have hcv := Own.string hown
      replace hown := Lib.hid hown
      go_wp2
      go_region
      go_wp2
      obtain ⟨L, hL⟩ : ∃ L : List ByteArray, L = [s, t, s ++ ⟨#[ch]⟩, t.extract 0 190 ++ s] := ⟨_, rfl⟩
      have hLs : ∀ (i : Nat) (h : i < L.length), L[i].size ≤ 9223372036854775807 := by
        have : ∀ x ∈ L, x.size ≤ 9223372036854775807 := by
          rw [hL]
          simp only [List.mem_cons, List.not_mem_nil, or_false]
          have h1 : (⟨#[ch]⟩ : ByteArray).size = 1 := rfl
          rintro x (rfl | rfl | rfl | rfl)
          · omega
          · omega
          · rw [ByteArray.size_append]; omega
          · rw [ByteArray.size_append, ByteArray.size_extract]; omega
        exact fun i h => this _ (List.getElem_mem h)
      have hlen : L.length = 4 := by rw [hL]; rfl
      have hW1 : ((W.alloc (.cells #[.int .u8 (ch.toNat : Int)] 5)).alloc (.cells (L.map Value.string).toArray 9)).drew = ((W.alloc (.cells #[.int .u8 (ch.toNat : Int)] 5)).alloc (.cells #[.string s, .string t, .string (s ++ ⟨#[ch]⟩), .string (t.extract 0 190 ++ s)] 9)).drew := by rw [hL]; rfl
      have hS := strsAt_alloc L (W.alloc (.cells #[.int .u8 (ch.toNat : Int)] 5)) 9
      have hS2 := hS.below (Below.drew (Below.refl _ _))
      have hbW : Below W.heap.size W ((W.alloc (.cells #[.int .u8 (ch.toNat : Int)] 5)).alloc (.cells (L.map Value.string).toArray 9)).drew := (((Below.refl _ W).alloc (Nat.le_refl _) _).alloc (by simp) _).drew
      rw [hW1] at hS2 hbW
      have E1 := E.below hbW
      have B1 := B.trans (hbW.mono B.size)
      clear hW1 hL hbW hS hcv hown
      generalize ((W.alloc (.cells #[.int .u8 (ch.toNat : Int)] 5)).alloc (.cells #[.string s, .string t, .string (s ++ ⟨#[ch]⟩), .string (t.extract 0 190 ++ s)] 9)).drew = W1 at hS2 E1 B1 ⊢
      obtain ⟨b, off, hbl, hv, hcell⟩ := hS2
      rw [hlen] at hv
      obtain ⟨rfl, rfl⟩ : b = W.heap.size + 1 ∧ off = 0 := by
        simp only [Value.slice.injEq, Option.some.injEq, Addr.mk.injEq] at hv
        have := hv.1.1
        rw [World.size_alloc] at this
        exact ⟨this.symm, hv.1.2.1.symm⟩
      clear hv E B hlt hge
      go_loopw [9] (fun i wr => ∃ k : Nat, k ≤ 4 ∧ i = .int .i64 k ∧ Below W1.heap.size W1 wr) (fun i _ => 4 - (intOf i).toNat)
      case atStart => exact ⟨0, by omega, rfl, Below.refl _ _⟩
      case round =>
        obtain ⟨j, hj, rfl, hbw⟩ := hrel
        by_cases hlt : j < 4
        · have hjl : j < L.length := by omega
          have hc1 := cell_below (hcell j hjl) hbw
          rw [Nat.zero_add] at hc1
          have hck : ∀ d os, (Sort.grow (redrawn wr d) os).cell? ⟨W.heap.size + 1, j, none⟩ = some (.string L[j]) := fun d os => cell_regrown hc1 d os
          have E2 := E1.below hbw
          have cK := valid_grown E2 L[j] (hLs j hjl)
          have cR := refValid_grown E2 L[j] (hLs j hjl)
          replace hcell := Lib.hid hcell
          replace hc1 := Lib.hid hc1
          replace hLs := Lib.hid hLs
          replace hlen := Lib.hid hlen
          go_wp2
          refine wp_region_quiet_below (by kernel_rfl) (by kernel_rfl) ?_
          repeat (quiet_step (first | exact cK _ _ | exact cR _ _))
          refine wpQuiet_nil ?_
          intro _ hw'
          obtain ⟨⟨dq, osq⟩, hw''⟩ := hw'
          subst hw''
          have hb2 := below_regrown wr dq osq
          generalize Sort.grow (redrawn wr dq) osq = w2 at hb2 ⊢
          clear hck cK cR
          go_wp2
          go_roundw
          case rel => exact ⟨j + 1, by omega, by go_num, hbw.trans (hb2.mono hbw.size)⟩
          case measure => simp [intOf]; omega
        · obtain rfl : j = 4 := by omega
          go_wp2
          go_ret
          exact ⟨rfl, B1.trans (hbw.mono B1.size)⟩
end Go.Proofs.YtfdmeinfjfmnlaaDoor
