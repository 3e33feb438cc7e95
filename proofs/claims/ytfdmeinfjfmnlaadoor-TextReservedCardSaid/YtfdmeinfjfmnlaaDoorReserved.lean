/- Contracts of text.Reserved and of the document's answer for two equal lists of texts. -/
import Derived.Test.YtfdmeinfjfmnlaaDoorTextParses
namespace Go.Proofs.YtfdmeinfjfmnlaaDoor
open Go Go.RowKit

/-- A slice of strings that holds a list, whatever its capacity. -/
def StrsC (v : Value) (W : List ByteArray) (w : World) : Prop := ∃ b off cap, b < w.heap.size ∧ v = .slice (some ⟨b, off, none⟩) W.length cap ∧ W.length ≤ cap ∧ ∀ (i : Nat) (h : i < W.length), w.cell? ⟨b, off + i, none⟩ = some (.string W[i])
theorem StrsAt.c {v : Value} {W : List ByteArray} {w : World} (h : StrsAt v W w) : StrsC v W w := by
  obtain ⟨b, off, h1, h2, h3⟩ := h
  exact ⟨b, off, _, h1, h2, Nat.le_refl _, h3⟩
theorem StrsC.below {v : Value} {W : List ByteArray} {w w' : World} (h : StrsC v W w) (hb : Below w.heap.size w w') : StrsC v W w' := by
  obtain ⟨b, off, cap, h1, h2, h4, h3⟩ := h
  exact ⟨b, off, cap, Nat.lt_of_lt_of_le h1 hb.size, h2, h4, fun i hi => cell_below (h3 i hi) hb⟩
theorem infoStr : (Tryd.prog.info? 9).map (fun i => (i.zero, i.size, i.bytes)) = some (some (.string ⟨#[]⟩), 1, 16) := by kernel_rfl

set_option maxHeartbeats 2000000 in
theorem reserved_any (w : World) (hR : Res words w) : Calls Tryd.prog 13 #[] w fun e w' => ∃ v, e = .returned v ∧ StrsC v words w' ∧ Below w.heap.size w w' := by
  obtain ⟨b, off, hb, hg, hcell⟩ := hR.ex
  obtain ⟨i0, hi, hz0, hz1, hz2⟩ := info_parts infoStr
  go_enter Tryd.func13, Tryd.ntmps13
  go_wp2_with (at_builtin; refine wpList_append_own _ rfl _ _ 23 rfl w.heap.size 9 i0 (.string ⟨#[]⟩) 1 16 Tryd.underlying23 hi hz0 hz1 hz2 rfl (by decide) _ _ _ rfl (World.ownsRow_nil w w.heap.size _ 1) ⟨b, off, none⟩ words.length words.length (words.map Value.string) rfl ?c0 ?c1 ?c2 ?c3 ?c4 ?c5 ?_)
  case c0 => simp
  case c1 =>
    intro j u hj
    have hj' : j < words.length := by
      have := (List.getElem?_eq_some_iff.1 hj).1
      simpa using this
    rw [List.getElem?_map, List.getElem?_eq_getElem hj'] at hj
    simp only [Option.map_some, Option.some.injEq] at hj
    subst hj
    have h3 := hcell j hj'
    rw [show (⟨b, off, none⟩ : Addr).add j = ⟨b, off + j, none⟩ from (by by_cases h0 : j = 0 <;> simp [Addr.add, h0])]
    exact h3
  case c2 =>
    intro u hu
    obtain ⟨x, _, rfl⟩ := List.mem_map.1 hu
    rfl
  case c3 => unfold maxLen; have := words_length; omega
  case c4 => have := words_length; omega
  case c5 => exact Nat.le_refl _
  intro v' w2 hown hgrow _
  go_wp2
  go_ret
  refine ⟨_, rfl, ?_, (Below.refl _ w).grown hgrow (Nat.le_refl _) (fun k hk => by cases hk)⟩
  obtain ⟨hl, hcs⟩ := hown
  rcases hcs with ⟨_, h0⟩ | ⟨g, cap, cur, rfl, hB, hgr, hn, hc, hs, ht⟩
  · have := words_length; omega
  · refine ⟨g, 0, cap, (Array.getElem?_eq_some_iff.1 hgr).1, rfl, hn, fun i hi2 => ?_⟩
    have h1 : cur.toList[i]? = some (.string words[i]) := by
      have := congrArg (fun x : List Value => x[i]?) ht
      simp only [Nat.mul_one, List.getElem?_take, hi2, if_true, List.getElem?_map, List.getElem?_eq_getElem hi2, Option.map_some] at this
      exact this
    rw [Lib.cell_of_heap hgr, Nat.zero_add]
    simpa using h1

set_option maxHeartbeats 4000000 in
theorem same_true (W : List ByteArray) (hW : W.length ≤ 1000) (va vb : Value) (w : World) (ha : StrsC va W w) (hb : StrsC vb W w) :
    Calls Tryd.prog 15 #[va, vb] w fun e w' => e = .returned (.bool true) ∧ Below w.heap.size w w' := by
  obtain ⟨b1, o1, c1, l1, rfl, k1, h1⟩ := ha
  obtain ⟨b2, o2, c2, l2, rfl, k2, h2⟩ := hb
  go_enter Tryd.func15, Tryd.ntmps15
  go_wp2
  go_loopw [5] (fun i wr => ∃ k : Nat, k ≤ W.length ∧ i = .int .i64 k ∧ Below w.heap.size w wr) (fun i _ => W.length - (intOf i).toNat)
  case atStart => exact ⟨0, Nat.zero_le _, rfl, Below.refl _ _⟩
  case round =>
    obtain ⟨k, hk, rfl, hbw⟩ := hrel
    by_cases hlt : k < W.length
    · have e1 := cell_below (h1 k hlt) hbw
      have e2 := cell_below (h2 k hlt) hbw
      have d1 : ∀ d os, (Sort.grow (redrawn wr d) os).cell? ⟨b1, o1 + k, none⟩ = some (.string W[k]) := fun d os => cell_regrown e1 d os
      have d2 : ∀ d os, (Sort.grow (redrawn wr d) os).cell? ⟨b2, o2 + k, none⟩ = some (.string W[k]) := fun d os => cell_regrown e2 d os
      generalize W[k] = x at d1 d2
      have xx : (x.toList == x.toList) = true := by simp
      clear h1 h2 e1 e2
      go_wp2
      refine wp_region_quiet_below (by kernel_rfl) (by kernel_rfl) ?_
      repeat (quiet_step (fail))
      refine wpQuiet_nil ?_
      intro _ hw'
      obtain ⟨⟨dq, osq⟩, hw''⟩ := hw'
      subst hw''
      have hb2 := below_regrown wr dq osq
      generalize Sort.grow (redrawn wr dq) osq = w2 at hb2 ⊢
      clear d1 d2
      go_wp2
      go_roundw
      case rel => exact ⟨k + 1, by omega, by go_num, hbw.trans (hb2.mono hbw.size)⟩
      case measure => simp [intOf]; omega
    · go_wp2
      go_ret
      exact ⟨rfl, hbw⟩
end Go.Proofs.YtfdmeinfjfmnlaaDoor
