/- Contract of the law's cut: at most 20 fields, each at most its first 300 bytes. -/
import Derived.Test.YtiomdikompodfaaRefHash
namespace Go.Proofs.Ytiomdikompodfaa
open Go Go.RowKit

def cutL (l : List (List UInt8)) : List (List UInt8) := (l.take 20).map (List.take 300)
theorem infoSlice : (Try.prog.info? 23).map (fun i => (i.zero, i.size, i.bytes)) = some (some (.slice none 0 0), 1, 24) := by kernel_rfl
theorem run_makeFields (w : World) (n : Nat) (h : n ≤ 1000) : (Instr.makeSlice 27 (.int .i64 (n : Int)) (.int .i64 (n : Int))).run Try.prog w = .ok (.slice (some ⟨w.heap.size, 0, none⟩) n n) (w.alloc (.cells (madeCells #[.slice none 0 0] n) 23)) := by
  obtain ⟨i0, hi, hz0, hz1, hz2⟩ := info_parts infoSlice
  have := run_make (P := Try.prog) w 27 23 i0 (.slice none 0 0) Try.underlying27 hi hz0 .i64 .i64 (n : Int) (n : Int) (by omega) (Int.le_refl _) (by rw [hz2]; omega) (by omega)
  rw [hz1] at this
  simpa [Value.cells] using this
/-- One cut field lies in a cell. -/
def CutAt (w0 : World) (f : List UInt8) (v : Option Value) : Prop := ∃ (a1 : Option Addr) (c1 : Nat), v = some (.slice a1 ((f.take 300).length : Nat) c1) ∧ (a1 = none → c1 = 0) ∧ (f.take 300).length ≤ c1 ∧ BytesAre a1 (f.take 300) w0
structure Cutting (g n : Nat) (fs : List (List UInt8)) (w wr : World) : Prop where
  below : Below g w wr
  lt : g < wr.heap.size
  done : ∀ i (_ : i < n) (h : i < fs.length), CutAt w fs[i] (wr.cell? ⟨g, i, none⟩)
  todo : ∀ i, i < fs.length → ∃ v, wr.cell? ⟨g, i, none⟩ = some v
  free : ∀ i, wr.frozen? ⟨g, i, none⟩ = false
theorem Cutting.start (fs : List (List UInt8)) (w : World) : Cutting w.heap.size 0 fs w (w.alloc (.cells (madeCells #[.slice none 0 0] fs.length) 23)) := by
  refine ⟨(Below.refl _ w).alloc (Nat.le_refl _) _, by simp, fun i hi => by omega, fun i hi => ?_, Lib.frozen_of_heap (heap_alloc_new w _)⟩
  rw [Lib.cell_of_heap (heap_alloc_new w _)]
  exact ⟨_, Array.getElem?_eq_getElem (by rw [size_madeCells]; exact hi)⟩
theorem Cutting.put {g n : Nat} {fs : List (List UInt8)} {w wr : World} (h : Cutting g n fs w wr) (v : Value) (hn : n < fs.length) (hv : CutAt w fs[n] (some v)) : Cutting g (n + 1) fs w (wr.setCell ⟨g, n, none⟩ v) := by
  have hnew : (wr.setCell ⟨g, n, none⟩ v).cell? ⟨g, n, none⟩ = some v := by
    obtain ⟨v0, h0⟩ := h.todo n hn
    exact World.cell?_setCell_same _ _ _ h0
  have hold : ∀ i, i ≠ n → (wr.setCell ⟨g, n, none⟩ v).cell? ⟨g, i, none⟩ = wr.cell? ⟨g, i, none⟩ := fun i hi => World.cell?_setCell_other wr _ _ v (fun e => hi (by injection e with _ e2; exact e2.symm))
  refine ⟨h.below.setCell (p := ⟨g, n, none⟩) (Nat.le_refl _) _, by simpa using h.lt, fun i hi hl => ?_, fun i hi => ?_, fun i => ?_⟩
  · by_cases he : i = n
    · subst he; rw [hnew]; exact hv
    · rw [hold i he]; exact h.done i (by omega) hl
  · by_cases he : i = n
    · subst he; exact ⟨v, hnew⟩
    · rw [hold i he]; exact h.todo i hi
  · simpa using h.free i

theorem Cutting.again {g n : Nat} {fs : List (List UInt8)} {w wr : World} (h : Cutting g n fs w wr) (v : Value) (hn : n < fs.length) : Cutting g n fs w (wr.setCell ⟨g, n, none⟩ v) := by
  have hold : ∀ i, i ≠ n → (wr.setCell ⟨g, n, none⟩ v).cell? ⟨g, i, none⟩ = wr.cell? ⟨g, i, none⟩ := fun i hi => World.cell?_setCell_other wr _ _ v (fun e => hi (by injection e with _ e2; exact e2.symm))
  have hnew : (wr.setCell ⟨g, n, none⟩ v).cell? ⟨g, n, none⟩ = some v := by
    obtain ⟨v0, h0⟩ := h.todo n hn
    exact World.cell?_setCell_same _ _ _ h0
  refine ⟨h.below.setCell (p := ⟨g, n, none⟩) (Nat.le_refl _) _, by simpa using h.lt, fun i hi hl => ?_, fun i hi => ?_, fun i => ?_⟩
  · rw [hold i (by omega)]; exact h.done i hi hl
  · by_cases he : i = n
    · subst he; exact ⟨v, hnew⟩
    · rw [hold i he]; exact h.todo i hi
  · simpa using h.free i

theorem FieldsAre.take {a : Option Addr} {l : List (List UInt8)} {w : World} (h : FieldsAre a l w) (n : Nat) : FieldsAre a (l.take n) w := by
  intro i hi
  have hi' : i < l.length := by rw [List.length_take] at hi; omega
  rw [show (l.take n)[i] = l[i] from by simp]
  exact h i hi'
theorem BytesAre.take {a : Option Addr} {l : List UInt8} {w : World} (h : BytesAre a l w) (n : Nat) : BytesAre a (l.take n) w := by
  intro i hi
  have hi' : i < l.length := by rw [List.length_take] at hi; omega
  rw [show (l.take n)[i] = l[i] from by simp]
  exact h i hi'
theorem Cutting.fields {fs : List (List UInt8)} {w wr : World} (h : Cutting w.heap.size fs.length fs w wr) : FieldsAre (some ⟨w.heap.size, 0, none⟩) (fs.map (List.take 300)) wr := by
  intro i hi
  have hi' : i < fs.length := by simpa using hi
  obtain ⟨a1, c1, hv, hn, hc, hb⟩ := h.done i hi' hi'
  rw [show (fs.map (List.take 300))[i] = fs[i].take 300 from by simp]
  exact ⟨_, 0, a1, c1, rfl, h.lt, by rw [Nat.zero_add]; exact hv, hn, hc, hb.below (Nat.le_refl _) h.below⟩
theorem cutL_length (l : List (List UInt8)) : (cutL l).length ≤ 20 := by simp [cutL]; omega
theorem cutL_each (l : List (List UInt8)) : ∀ f ∈ cutL l, f.length ≤ 300 := by
  intro f hf
  simp only [cutL, List.mem_map] at hf
  obtain ⟨g, _, rfl⟩ := hf
  simp [List.length_take]
  omega

set_option maxHeartbeats 8000000 in
theorem cut_small (a0 : Option Addr) (K : List (List UInt8)) (cap : Nat) (w : World) (hl : K.length ≤ 20) (hF : FieldsAre a0 K w) (hf : ∀ f ∈ K, f.length ≤ 9223372036854775807) :
    Calls Try.prog 11 #[.slice a0 (K.length : Nat) cap] w fun e w' => e = .returned (.slice (some ⟨w.heap.size, 0, none⟩) (K.length : Nat) K.length) ∧ Cutting w.heap.size K.length K w w' := by
  have hmk := run_makeFields w K.length (by omega)
  go_enter Try.func11, Try.ntmps11
  go_wp2
  have hst := Cutting.start K w
  generalize w.alloc (.cells (madeCells #[.slice none 0 0] K.length) 23) = w0 at hst
  replace hmk := Lib.hid hmk
  obtain ⟨g, hg⟩ : ∃ g, w.heap.size = g := ⟨_, rfl⟩
  rw [hg] at hst
  go_loopw [4] (fun i wr => ∃ n : Nat, n ≤ K.length ∧ i = .int .i64 n ∧ Cutting g n K w wr) (fun i _ => K.length - (intOf i).toNat)
  case atStart => exact ⟨0, Nat.zero_le _, rfl, hst⟩
  case round =>
    obtain ⟨n, hn, rfl, hcu⟩ := hrel
    clear hst
    by_cases hlt : n < K.length
    · obtain ⟨b, off, a1, c1, rfl, hbk, hce, hnc, hcp, hby⟩ := hF n hlt
      have hcw := hcu.below.cell (p := ⟨b, off + n, none⟩) (by show b < g; omega)
      rw [hce] at hcw
      obtain ⟨v0, hv0⟩ := hcu.todo n hlt
      have hfz := hcu.free n
      have hlt' : (n : Int) < (K.length : Int) := by omega
      have hm := hf K[n] (List.getElem_mem hlt)
      obtain ⟨f, hfe⟩ : ∃ f, K[n] = f := ⟨_, rfl⟩
      rw [hfe] at hcw hm hby hcp
      by_cases h3 : 300 < f.length
      · go_wp2
        have hc2 := (hcu.again (.slice a1 f.length c1) hlt).put (.slice a1 (300 : Nat) c1) hlt (by rw [hfe]; exact ⟨a1, c1, by rw [List.length_take, Nat.min_eq_left (by omega)], hnc, by rw [List.length_take]; omega, hby.take 300⟩)
        refine ⟨⟨n + 1, by omega, by go_num, hc2⟩, ?_⟩
        simp [intOf]; omega
      · have h3' : ¬ (300 : Int) < (f.length : Int) := by omega
        go_wp2
        have hc2 := hcu.put (.slice a1 f.length c1) hlt (by rw [hfe]; exact ⟨a1, c1, by rw [List.length_take, Nat.min_eq_right (by omega)], hnc, by rw [List.length_take]; omega, hby.take 300⟩)
        refine ⟨⟨n + 1, by omega, by go_num, hc2⟩, ?_⟩
        simp [intOf]; omega
    · obtain rfl : n = K.length := by omega
      have hlt' : ¬ (K.length : Int) < (K.length : Int) := by omega
      subst hg
      go_wp2
      go_ret
      exact ⟨rfl, hcu⟩

set_option maxHeartbeats 8000000 in
theorem cut_big (a0 : Option Addr) (K : List (List UInt8)) (m cap : Nat) (w : World) (hl : K.length = 20) (h20 : 20 < m) (hm : m ≤ 9223372036854775807) (hc : m ≤ cap) (hF : FieldsAre a0 K w) (hf : ∀ f ∈ K, f.length ≤ 9223372036854775807) :
    Calls Try.prog 11 #[.slice a0 m cap] w fun e w' => e = .returned (.slice (some ⟨w.heap.size, 0, none⟩) (K.length : Nat) K.length) ∧ Cutting w.heap.size K.length K w w' := by
  have hmk := run_makeFields w K.length (by omega)
  go_enter Try.func11, Try.ntmps11
  go_upto_region 3 with (fail)
  rw [show Value.slice a0 20 cap = Value.slice a0 K.length cap from by rw [hl]]
  replace h20 := Lib.hid h20
  have hl2 : K.length ≤ 20 := by omega
  replace hl := Lib.hid hl
  go_wp2
  have hst := Cutting.start K w
  generalize w.alloc (.cells (madeCells #[.slice none 0 0] K.length) 23) = w0 at hst
  replace hmk := Lib.hid hmk
  obtain ⟨g, hg⟩ : ∃ g, w.heap.size = g := ⟨_, rfl⟩
  rw [hg] at hst
  go_loopw [4] (fun i wr => ∃ n : Nat, n ≤ K.length ∧ i = .int .i64 n ∧ Cutting g n K w wr) (fun i _ => K.length - (intOf i).toNat)
  case atStart => exact ⟨0, Nat.zero_le _, rfl, hst⟩
  case round =>
    obtain ⟨n, hn, rfl, hcu⟩ := hrel
    clear hst
    by_cases hlt : n < K.length
    · obtain ⟨b, off, a1, c1, rfl, hbk, hce, hnc, hcp, hby⟩ := hF n hlt
      have hcw := hcu.below.cell (p := ⟨b, off + n, none⟩) (by show b < g; omega)
      rw [hce] at hcw
      obtain ⟨v0, hv0⟩ := hcu.todo n hlt
      have hfz := hcu.free n
      have hlt' : (n : Int) < (K.length : Int) := by omega
      have hm := hf K[n] (List.getElem_mem hlt)
      obtain ⟨f, hfe⟩ : ∃ f, K[n] = f := ⟨_, rfl⟩
      rw [hfe] at hcw hm hby hcp
      by_cases h3 : 300 < f.length
      · go_wp2
        have hc2 := (hcu.again (.slice a1 f.length c1) hlt).put (.slice a1 (300 : Nat) c1) hlt (by rw [hfe]; exact ⟨a1, c1, by rw [List.length_take, Nat.min_eq_left (by omega)], hnc, by rw [List.length_take]; omega, hby.take 300⟩)
        refine ⟨⟨n + 1, by omega, by go_num, hc2⟩, ?_⟩
        simp [intOf]; omega
      · have h3' : ¬ (300 : Int) < (f.length : Int) := by omega
        go_wp2
        have hc2 := hcu.put (.slice a1 f.length c1) hlt (by rw [hfe]; exact ⟨a1, c1, by rw [List.length_take, Nat.min_eq_right (by omega)], hnc, by rw [List.length_take]; omega, hby.take 300⟩)
        refine ⟨⟨n + 1, by omega, by go_num, hc2⟩, ?_⟩
        simp [intOf]; omega
    · obtain rfl : n = K.length := by omega
      have hlt' : ¬ (K.length : Int) < (K.length : Int) := by omega
      subst hg
      go_wp2
      go_ret
      exact ⟨rfl, hcu⟩

theorem cut_any (a0 : Option Addr) (fs : List (List UInt8)) (cap : Nat) (w : World) (hm : fs.length ≤ 9223372036854775807) (hc : fs.length ≤ cap) (hF : FieldsAre a0 fs w) (hf : ∀ f ∈ fs, f.length ≤ 9223372036854775807) :
    Calls Try.prog 11 #[.slice a0 (fs.length : Nat) cap] w fun e w' => e = .returned (.slice (some ⟨w.heap.size, 0, none⟩) ((cutL fs).length : Nat) (cutL fs).length) ∧ FieldsAre (some ⟨w.heap.size, 0, none⟩) (cutL fs) w' ∧ Below w.heap.size w w' := by
  have hlen : (cutL fs).length = (fs.take 20).length := by simp [cutL]
  rw [hlen]
  have hF' := hF.take 20
  have hf' : ∀ f ∈ fs.take 20, f.length ≤ 9223372036854775807 := fun f h => hf f (List.mem_of_mem_take h)
  by_cases h20 : 20 < fs.length
  · refine (cut_big a0 (fs.take 20) fs.length cap w (by rw [List.length_take]; omega) h20 hm hc hF' hf').mono ?_
    rintro e w' ⟨rfl, h⟩
    exact ⟨rfl, h.fields, h.below⟩
  · rw [List.take_of_length_le (by omega)] at hF' hf' ⊢
    refine (cut_small a0 fs cap w (by omega) hF' hf').mono ?_
    rintro e w' ⟨rfl, h⟩
    refine ⟨rfl, ?_, h.below⟩
    unfold cutL
    rw [List.take_of_length_le (by omega)]
    exact h.fields
end Go.Proofs.Ytiomdikompodfaa
