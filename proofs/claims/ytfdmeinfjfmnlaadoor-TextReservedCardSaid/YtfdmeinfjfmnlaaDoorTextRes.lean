/- TextReserved: the reserved words are those of the document, none of them is a key, and they ascend. -/
import Derived.Test.YtfdmeinfjfmnlaaDoorReserved
namespace Go.Proofs.YtfdmeinfjfmnlaaDoor
open Go Go.RowKit

theorem words_less : ((List.range 45).all fun k => Op.bytesLess ((words.getD k ⟨#[]⟩).data.toList) ((words.getD (k + 1) ⟨#[]⟩).data.toList)) = true := by kernel_rfl
theorem words_less_at (k : Nat) (h : k < 45) : Op.bytesLess (words[k]'(by rw [words_length]; omega)).toList (words[k + 1]'(by rw [words_length]; omega)).toList = true := by
  have := List.all_eq_true.1 words_less k (List.mem_range.2 h)
  rw [ByteArray.toList_eq, ByteArray.toList_eq]
  simpa [List.getD, List.getElem?_eq_getElem (show k < words.length by rw [words_length]; omega), List.getElem?_eq_getElem (show k + 1 < words.length by rw [words_length]; omega)] using this
theorem words_small : (words.all fun s => decide (s.size ≤ 20)) = true := by kernel_rfl
theorem word_size (k : Nat) (h : k < words.length) : words[k].size ≤ 20 := by
  have := List.all_eq_true.1 words_small words[k] (List.getElem_mem h)
  simpa using this
theorem word_key (k : Nat) (h : k < words.length) : keyB words words[k] = false := by
  unfold keyB
  rw [isIn_yes (List.getElem_mem h)]
  simp

theorem form46 {v : Value} {w : World} (h : StrsAt v words w) : ∃ b off, v = .slice (some ⟨b, off, none⟩) 46 46 := by
  obtain ⟨b, off, h1, h2, h3⟩ := h
  exact ⟨b, off, h2⟩
theorem cells46 {b off : Nat} {w : World} (h : StrsAt (.slice (some ⟨b, off, none⟩) 46 46) words w) : ∀ (i : Nat) (h : i < words.length), w.cell? ⟨b, off + i, none⟩ = some (.string words[i]) := by
  obtain ⟨b', off', h1, h2, h3⟩ := h
  simp only [Value.slice.injEq, Option.some.injEq, Addr.mk.injEq] at h2
  obtain ⟨⟨rfl, rfl, _⟩, _⟩ := h2
  exact h3
theorem refKey_grown2 {w : World} (s : ByteArray) (X : Bool) (hX : keyB words s = X) (hm : s.size ≤ 9223372036854775807) (d : Nat) (os : Array Obj) :
    Calls Tryd.prog 12 #[.string s] (Sort.grow (redrawn w d) os) fun e w' => e = .returned (.bool X) ∧ ∃ p : Regrown, w' = Sort.grow (redrawn w p.d) p.os := by
  rw [← hX]; exact refKey_grown s hm d os
theorem key_grown2 {w : World} (E : Env w) (s : ByteArray) (X : Bool) (hX : keyB words s = X) (hm : s.size ≤ 9223372036854775807) (d : Nat) (os : Array Obj) :
    Calls Tryd.prog 11 #[.string s] (Sort.grow (redrawn w d) os) fun e w' => e = .returned (.bool X) ∧ ∃ p : Regrown, w' = Sort.grow (redrawn w p.d) p.os := by
  rw [← hX]; exact key_grown E s hm d os

set_option maxHeartbeats 8000000 in
set_option maxRecDepth 100000 in
theorem reserved_walk (n : Int) (w : World) (E : Env w) (_hn : -9223372036854775808 ≤ n ∧ n ≤ 9223372036854775807) :
    Calls Tryd.prog 4 #[.int .i64 n] w fun e w' => e = .returned (.bool true) ∧ Below w.heap.size w w' := by
  have B := Below.refl w.heap.size w
  obtain ⟨m, hm⟩ : ∃ m, n.tmod 46 = m := ⟨_, rfl⟩
  have hmr := tmod_range n 46 (by omega)
  rw [show ((46 : Nat) : Int) = 46 from rfl, hm] at hmr
  obtain ⟨m0, m1⟩ := hmr
  clear _hn
  obtain ⟨K, hK⟩ : ∃ K : Nat, (m + 46) % 46 = (K : Int) := ⟨((m + 46) % 46).toNat, by omega⟩
  have hKl : K < 46 := by omega
  go_enter Tryd.func4, Tryd.ntmps4
  go_wp2_with (first
    | (go_at_call 10; refine (awake_any _ E).mono ?_; rintro e W ⟨rfl, hb⟩; replace E := E.below hb; replace B := B.trans (hb.mono B.size); clear hb)
    | (go_at_call 13; refine (reserved_any _ E.res).mono ?_; rintro e W1 ⟨va, rfl, hva, hb⟩; replace E := E.below hb; replace B := B.trans (hb.mono B.size); clear hb)
    | (go_at_call 14; refine (refReserved_any _).mono ?_; rintro e W2 ⟨vb, rfl, hvb, hb⟩; replace E := E.below hb; replace hva := hva.below hb; replace B := B.trans (hb.mono B.size); clear hb; obtain ⟨b, off, rfl⟩ := form46 hvb)
    | (go_at_call 15; refine (same_true words (by decide) _ _ _ hva hvb.c).mono ?_; rintro e W3 ⟨rfl, hb⟩; replace E := E.below hb; replace hvb := hvb.below hb; replace B := B.trans (hb.mono B.size); clear hb))
  have hcells := cells46 hvb
  clear hva hvb
  have hwl := words_length
  have hKw : K < words.length := by omega
  have hcK := hcells K hKw
  have hsz := word_size K hKw
  have kK := word_key K hKw
  have z1 : (⟨#[115]⟩ : ByteArray).size = 1 := rfl
  obtain ⟨X, hX⟩ : ∃ X, keyB words (words[K] ++ ⟨#[115]⟩) = X := ⟨_, rfl⟩
  have c1 := key_grown2 E words[K] false kK (by omega)
  have c2 := key_grown2 E (words[K] ++ ⟨#[115]⟩) X hX (by rw [ByteArray.size_append]; omega)
  have c3 := refKey_grown2 (w := W3) (words[K] ++ ⟨#[115]⟩) X hX (by rw [ByteArray.size_append]; omega)
  have hgK : ∀ d os, (Sort.grow (redrawn W3 d) os).cell? ⟨b, off + K, none⟩ = some (.string words[K]) := fun d os => cell_regrown hcK d os
  rcases Nat.eq_zero_or_pos K with h0 | h0
  · subst h0
    rw [hK, show ((0 : Nat) : Int) = 0 from rfl]
    rw [Nat.add_zero] at hcK
    simp only [Nat.add_zero] at hgK
    generalize words[0] = x at hgK c1 c2 c3 hsz
    have hov1 : ¬ 9223372036854775807 < x.size + (⟨#[115]⟩ : ByteArray).size := by omega
    have hov2 : ¬ 9223372036854775807 < x.size + 1 := by omega
    replace hK := Lib.hid hK
    replace hX := Lib.hid hX
    replace kK := Lib.hid kK
    replace hcK := Lib.hid hcK
    replace hwl := Lib.hid hwl
    replace hcells := Lib.hid hcells
    clear hm m0 m1
    refine wp_region_quiet_below (by kernel_rfl) (by kernel_rfl) ?_
    repeat (go_big_quiet_step (first | with_reducible exact c1 _ _ | with_reducible exact c2 _ _ | with_reducible exact c3 _ _))
    refine wpQuiet_nil ?_
    intro _ hw'
    obtain ⟨⟨dq, osq⟩, hw''⟩ := hw'
    subst hw''
    go_wp2
    go_ret
    exact ⟨rfl, B.trans ((below_regrown W3 dq osq).mono B.size)⟩
  · obtain ⟨k, rfl⟩ : ∃ k, K = k + 1 := ⟨K - 1, by omega⟩
    have hck := hcells k (by omega)
    have hless := words_less_at k (by omega)
    have hgk : ∀ d os, (Sort.grow (redrawn W3 d) os).cell? ⟨b, off + k, none⟩ = some (.string words[k]) := fun d os => cell_regrown hck d os
    rw [hK, show ((k + 1 : Nat) : Int) = (k : Int) + 1 by omega]
    have hk0 : (((k : Int) + 1) == 0) = false := by simp; omega
    have hk1 : (k : Int) + 1 < 46 := by omega
    generalize words[k + 1] = x at hgK c1 c2 c3 hsz hless
    generalize words[k] = y at hgk hless
    have hov1 : ¬ 9223372036854775807 < x.size + (⟨#[115]⟩ : ByteArray).size := by omega
    have hov2 : ¬ 9223372036854775807 < x.size + 1 := by omega
    replace hK := Lib.hid hK
    replace hX := Lib.hid hX
    replace kK := Lib.hid kK
    replace hcK := Lib.hid hcK
    replace hck := Lib.hid hck
    replace hwl := Lib.hid hwl
    replace hcells := Lib.hid hcells
    clear hm m0 m1 h0 hKl
    refine wp_region_quiet_below (by kernel_rfl) (by kernel_rfl) ?_
    repeat (go_big_quiet_step (first | with_reducible exact c1 _ _ | with_reducible exact c2 _ _ | with_reducible exact c3 _ _))
    refine wpQuiet_nil ?_
    intro _ hw'
    obtain ⟨⟨dq, osq⟩, hw''⟩ := hw'
    subst hw''
    go_wp2
    go_ret
    exact ⟨rfl, B.trans ((below_regrown W3 dq osq).mono B.size)⟩
end Go.Proofs.YtfdmeinfjfmnlaaDoor
