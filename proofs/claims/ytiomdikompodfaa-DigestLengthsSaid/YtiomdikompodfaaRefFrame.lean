/- Contract of the document's answer for the frame of any fields. -/
import Derived.Test.YtiomdikompodfaaApp
namespace Go.Proofs.Ytiomdikompodfaa
open Go Go.RowKit

/-- What a call that makes a row of bytes returns. -/
def MadeBytes (l : List UInt8) (w : World) (e : Ending) (w' : World) : Prop := ∃ (a1 : Option Addr) (c1 : Nat), e = .returned (.slice a1 (l.length : Nat) c1) ∧ (a1 = none → c1 = 0) ∧ l.length ≤ c1 ∧ BytesAre a1 l w' ∧ Below w.heap.size w w' ∧ Own w.heap.size (.slice a1 l.length c1) l w'
theorem Own.shape {B : Nat} {v : Value} {l : List UInt8} {w : World} (h : Own B v l w) : ∃ (a1 : Option Addr) (c1 : Nat), v = .slice a1 l.length c1 ∧ (a1 = none → c1 = 0) ∧ l.length ≤ c1 ∧ BytesAre a1 l w := by
  rcases h.2 with ⟨rfl, h0⟩ | ⟨g, cap, cur, rfl, hB, hg, hn, hc, hs, ht⟩
  · exact ⟨none, 0, by rw [h0], fun _ => rfl, by omega, fun i hi => by omega⟩
  · refine ⟨some ⟨g, 0, none⟩, cap, rfl, (by intro h; cases h), hn, fun i hi => ⟨g, 0, rfl, (Array.getElem?_eq_some_iff.1 hg).1, ?_⟩⟩
    have h1 : cur.toList[i]? = some (.int .u8 (l[i].toNat : Int)) := by
      have := congrArg (fun x : List Value => x[i]?) ht
      simp only [Nat.mul_one, List.getElem?_take, hi, if_true] at this
      rw [this]
      simp [Lib.byteCells, hi]
    rw [Lib.cell_of_heap hg]
    simpa using h1

set_option maxHeartbeats 8000000 in
theorem refFrame_any (a0 : Option Addr) (fs : List (List UInt8)) (cap : Nat) (w : World) (hl : fs.length ≤ 1000) (hf : ∀ f ∈ fs, f.length ≤ 100000) (hF : FieldsAre a0 fs w) :
    Calls Try.prog 13 #[.slice a0 (fs.length : Nat) cap] w (MadeBytes (frameL fs) w) := by
  go_enter Try.func13, Try.ntmps13
  go_wp2
  go_loopw [3, 4] (fun v i wr => ∃ n : Nat, n ≤ fs.length ∧ i = .int .i64 n ∧ Own w.heap.size v (frameL (fs.take n)) wr ∧ Below w.heap.size w wr) (fun _ i _ => fs.length - (intOf i).toNat)
  case atStart => exact ⟨0, Nat.zero_le _, rfl, own_nil _ _, Below.refl _ _⟩
  case round =>
    obtain ⟨n, hn, rfl, hown, hbl⟩ := hrel
    have hfl : (frameL (fs.take n)).length ≤ 1000 * 100008 := by
      refine Nat.le_trans (frameL_le (fs.take n) fun g hg => hf g (List.mem_of_mem_take hg)) ?_
      rw [List.length_take]
      omega
    by_cases hlt : n < fs.length
    · obtain ⟨b, off, a1, c1, rfl, hbk, hc, hnc, _, hby⟩ := hF n hlt
      have hm := hf fs[n] (List.getElem_mem hlt)
      have hcw := hbl.cell (p := ⟨b, off + n, none⟩) hbk
      rw [hc] at hcw
      have hnx := Lib.hid (frameL_take fs n hlt)
      generalize frameL (fs.take n) = L at hown hfl hnx
      have hlt' : (n : Int) < (fs.length : Int) := by omega
      replace hbl := Lib.hid hbl
      replace hc := Lib.hid hc
      generalize fs[n] = f at hm hby hcw hnx
      have hsz := hbl.out.size
      go_wp2
      obtain ⟨wo, hwo⟩ : ∃ wo : World, wo = wr := ⟨_, rfl⟩
      subst hwo
      go_loopw [3, 6] (fun v i wr => ∃ j : Nat, j ≤ 8 ∧ i = .int .i64 (56 - 8 * (j : Int)) ∧ Own w.heap.size v (L ++ (lenB f.length).take j) wr ∧ Below w.heap.size wo wr) (fun _ i _ => ((intOf i) + 8).toNat)
      case atStart => exact ⟨0, Nat.zero_le _, by simp, by simpa using hown, Below.refl _ _⟩
      case round =>
        obtain ⟨j, hj, rfl, hown1, hbl1⟩ := hrel
        have hsz1 := hbl1.size
        have hl1 : (L ++ (lenB f.length).take j).length ≤ 1000 * 100008 + 8 := by
          rw [List.length_append, List.length_take]
          omega
        by_cases hj8 : j < 8
        · have q : (0 : Int) ≤ 56 - 8 * (j : Int) := by omega
          have hlb := lenB_take f.length j hj8
          obtain ⟨c, hce⟩ : ∃ c, UInt8.ofNat (f.length / 2 ^ (56 - 8 * j)) = c := ⟨_, rfl⟩
          have he : (f.length : Int) / 2 ^ (56 - 8 * j) % 256 = (c.toNat : Int) := by
            rw [← hce, UInt8.toNat_ofNat', Int.natCast_emod, Int.natCast_ediv, Int.natCast_pow]
            rfl
          rw [hce] at hlb
          replace hlb := Lib.hid hlb
          clear hce
          go_wp2_with (at_builtin; refine wpList_own1 rfl _ _ rfl c hown1 rfl rfl ?c1 (by omega) ?_)
          case c1 => omega
          intro v' w2 hown2 hb2
          have hz2 := hb2.size
          go_wp2
          go_roundw
          case rel => exact ⟨j + 1, by omega, by go_num, by rw [hlb.out, ← List.append_assoc]; simpa using hown2, hbl1.trans (hb2.mono (by omega))⟩
          case measure => simp [intOf]; omega
        · obtain rfl : j = 8 := by omega
          rw [List.take_of_length_le (by rw [lenB_length]; omega)] at hown1 hl1
          have hl2 : (L ++ lenB f.length).length + f.length ≤ 140737488355328 := by omega
          replace hl1 := Lib.hid hl1
          have hcw2 := hbl1.cell (p := ⟨b, off + n, none⟩) hbk
          rw [hcw] at hcw2
          replace hcw := Lib.hid hcw
          have hby2 := hby.below (Nat.le_refl _) (hbl.out.trans hbl1)
          go_wp2_with (at_builtin; refine wpList_ownL rfl _ _ rfl f a1 c1 hown1 rfl rfl hnc hby2 hl2 (by omega) ?_)
          intro v' w2 hown2 hb2
          have hz2 := hb2.size
          go_wp2
          go_roundw
          case rel => exact ⟨n + 1, by omega, by go_num, by rw [hnx.out]; simpa using hown2, hbl.out.trans (hbl1.trans (hb2.mono (Nat.le_refl _)))⟩
          case measure => simp [intOf]; omega
    · obtain rfl : n = fs.length := by omega
      rw [List.take_of_length_le (Nat.le_refl _)] at hown hfl
      obtain ⟨a1, c1, rfl, hnc, hcp, hby⟩ := hown.shape
      have hlt' : ¬ (fs.length : Int) < (fs.length : Int) := by omega
      go_wp2
      go_ret
      exact ⟨a1, c1, rfl, hnc, hcp, hby, hbl, hown⟩
end Go.Proofs.Ytiomdikompodfaa
