/- Contract of the chapter's examples: they all hold. From the listed package-level variables to what the walks ask of the world. How the arguments of layer 3's rows are opened: a slice of bytes, three numbers, a value. -/
import Derived.Test.YtmijfcdmnibnpaaGreatDoorPf
import Derived.Test.YtmijfcdmnibnpaaGreatDoorPe
import Derived.Test.YtmijfcdmnibnpaaGreatDoorRows
import Derived.ProofKit
import Derived.OpenShut
import Derived.Deep.DeepHandedRow
import Derived.Deep.DeepWitnessRowRef
import Derived.Lib.LaidTab
import Derived.Lib.LaidIn
import Derived.Lib.LaidU8T
import Derived.Lib.LaidPrint
import Derived.SizedLaws
import Derived.LaidMore
import Derived.Test.YtmijfcdmnibnpaaGreatDoorPa
import Derived.Carry
import Derived.ChangeSlices
import Derived.Lib.SmallJoins
import Derived.Deep.Strs
import Derived.Laws.IdiomArrays
/- Contract of the chapter's examples: they all hold. -/
namespace Go.Proofs.YtmijfcdmnibnpaaGreatDoor
open Go Go.RowKit

/-- What the listed package-level variables of the library hold. -/
structure Env (w : World) : Prop where
  tabs : Tabs w
  pow : Pow w
theorem Env.below {w w' : World} (h : Env w) (hb : Below w.heap.size w w') : Env w' := ⟨h.tabs.below hb, h.pow.below hb⟩
theorem texts_none (w : World) (a : Option Addr) : TextsAre a [] w := fun i hi => by simp at hi
theorem texts_two (s t : ByteArray) (w : World) : TextsAre (some ⟨w.heap.size, 0, none⟩) [s, t] (w.alloc (.cells #[.string s, .string t] 9)) := by
  intro i hi
  have h2 : i = 0 ∨ i = 1 := by simp at hi; omega
  refine ⟨w.heap.size, 0, rfl, by simp, ?_⟩
  rw [Lib.cell_of_heap (heap_alloc_new w _)]
  rcases h2 with rfl | rfl <;> rfl
set_option maxHeartbeats 4000000 in
set_option maxRecDepth 100000 in
theorem awake_any (w : World) (E : Env w) : Calls Tryz.prog 5 #[] w fun e w' => e = .returned (.bool true) ∧ Below w.heap.size w w' := by
  have k1 : cmpP ⟨4, 0, ⟨#[49, 46, 49, 48, 46, 48]⟩, []⟩ ⟨4, 0, ⟨#[49, 46, 57, 46, 55]⟩, []⟩ = (1, 0) := by decide +kernel
  have hC : ∀ W, Env W → Calls Tryz.prog 16 #[.agg #[.int .i64 4, .int .i64 0, .string ⟨#[49, 46, 49, 48, 46, 48]⟩, .slice none 0 0], .agg #[.int .i64 4, .int .i64 0, .string ⟨#[49, 46, 57, 46, 55]⟩, .slice none 0 0]] W fun e w' => e = .returned (.tuple #[.int .i64 1, .int .i64 0]) ∧ Below W.heap.size W w' := fun W h => by
    have := compare_any ⟨4, 0, ⟨#[49, 46, 49, 48, 46, 48]⟩, []⟩ ⟨4, 0, ⟨#[49, 46, 57, 46, 55]⟩, []⟩ none none 0 0 W (by decide) (by decide) (fun s hs => by cases hs) (by decide) (by decide) (fun s hs => by cases hs) h.tabs (texts_none _ _) (texts_none _ _)
    rw [k1] at this
    exact this
  have k2 : formatP ⟨5, 0, ⟨#[]⟩, [⟨#[97]⟩, ⟨#[98]⟩]⟩ = (⟨#[91, 34, 97, 34, 44, 32, 34, 98, 34, 93]⟩, 0) := by decide +kernel
  have hF : ∀ W, Env W → Calls Tryz.prog 19 #[.agg #[.int .i64 5, .int .i64 0, .string ⟨#[]⟩, .slice (some ⟨W.heap.size, 0, none⟩) 2 2]] (W.alloc (.cells #[.string ⟨#[97]⟩, .string ⟨#[98]⟩] 9)) fun e w' => e = .returned (.tuple #[.string ⟨#[91, 34, 97, 34, 44, 32, 34, 98, 34, 93]⟩, .int .i64 0]) ∧ Below W.heap.size W w' := fun W h => by
    have hb := (Below.refl W.heap.size W).alloc (Nat.le_refl _) (.cells #[.string ⟨#[97]⟩, .string ⟨#[98]⟩] 9)
    have := format_any ⟨5, 0, ⟨#[]⟩, [⟨#[97]⟩, ⟨#[98]⟩]⟩ (some ⟨W.heap.size, 0, none⟩) 2 _ (by decide) (by decide) (fun s hs => by rcases List.mem_cons.1 hs with rfl | hs; decide; obtain rfl := List.mem_singleton.1 hs; decide) (h.tabs.below hb) (h.pow.below hb) (texts_two ⟨#[97]⟩ ⟨#[98]⟩ W)
    rw [k2] at this
    refine this.mono ?_
    rintro e w' ⟨rfl, h2⟩
    exact ⟨rfl, hb.trans (h2.mono hb.size)⟩
  have k3 : parseR ⟨#[49, 46, 48, 50, 46, 51]⟩ = (⟨0, 0, ⟨#[]⟩, []⟩, 1) := by kernel_rfl
  have hP : ∀ W, Env W → Calls Tryz.prog 10 #[.string ⟨#[49, 46, 48, 50, 46, 51]⟩] W fun e w' => (∃ (a : Option Addr) (c : Nat), e = .returned (.tuple #[.agg #[.int .i64 0, .int .i64 0, .string ⟨#[]⟩, .slice a 0 c], .int .i64 1])) ∧ Below W.heap.size W w' := fun W h => by
    have := parseVal_any ⟨#[49, 46, 48, 50, 46, 51]⟩ W (by decide) h.tabs
    rw [k3] at this
    refine this.mono ?_
    rintro e w' ⟨⟨a, c, rfl, _⟩, h2⟩
    exact ⟨⟨a, c, rfl⟩, h2⟩
  clear k1 k2 k3
  have B := Below.refl w.heap.size w
  go_enter Tryz.func5, Tryz.ntmps5
  go_wp2_with (first
    | (go_at_call 16; refine (hC _ (E.below (((Below.refl _ w).alloc (Nat.le_refl _) _).alloc (by simp) _))).mono ?_; rintro e W1 ⟨rfl, hb⟩; have B1 := (((Below.refl w.heap.size w).alloc (Nat.le_refl _) (.cells #[.int .i64 4, .int .i64 0, .string ⟨#[49, 46, 49, 48, 46, 48]⟩, .slice none 0 0] 29)).alloc (by simp) (.cells #[.int .i64 4, .int .i64 0, .string ⟨#[49, 46, 57, 46, 55]⟩, .slice none 0 0] 29)).trans (hb.mono (by simp; omega)); replace E := E.below B1; clear hb)
    | (go_at_call 19; refine (hF _ E).mono ?_; rintro e W2 ⟨rfl, hb⟩; replace E := E.below hb; replace B1 := B1.trans (hb.mono B1.size); clear hb)
    | (go_at_call 10; refine (hP _ E).mono ?_; rintro e W3 ⟨⟨a, c, rfl⟩, hb⟩; replace B1 := B1.trans (hb.mono B1.size); clear hb))
  go_ret
  exact ⟨rfl, B1.alloc B1.size _⟩
end Go.Proofs.YtmijfcdmnibnpaaGreatDoor
/- From the listed package-level variables to what the walks ask of the world. -/
namespace Go.Proofs.YtmijfcdmnibnpaaGreatDoor
open Go Go.RowKit Go.Shelf Go.ChangeShapes Go.WideShapes Go.ChangeAt Go.Lib

theorem own : ownKnob Tryz.prog.godebug = none := by kernel_rfl
theorem first_data : Rows.laid_unicode_utf8_first = firstData := by kernel_rfl
theorem accept_data : (Rows.laid_unicode_utf8_acceptRanges : DataW Unit) = acceptData := by kernel_rfl
theorem pow_of_reads {W : World} (h : VarReads Tryz.prog W "internal/strconv.uint64pow10" (tabData .u64 pow10Tab)) : Pow W := by
  obtain ⟨g', t', cs, fuel, p, hg, hty, hvar, hd⟩ := h
  obtain rfl := Option.some.inj ((show Tryz.prog.globalNamed "internal/strconv.uint64pow10" = some 6 by kernel_rfl).symm.trans hg)
  obtain rfl := Option.some.inj ((show (Tryz.prog.globals[6]?).map (·.type) = some 115 by kernel_rfl).symm.trans hty)
  unfold Pow TabIs
  rw [hvar, ← cells_of_tab Tryz.underlying115 Tryz.underlying103 (by kernel_rfl) (by kernel_rfl) hd]
/-- What the library's three tables give. -/
theorem env_of_reads {W : World} (h1 : VarReads Tryz.prog W "internal/strconv.uint64pow10" (tabData .u64 pow10Tab)) (h2 : VarReads Tryz.prog W "unicode/utf8.acceptRanges" acceptData) (h3 : VarReads Tryz.prog W "unicode/utf8.first" firstData) : Env W where
  tabs := utf8Tabs_of_readsT (U8Types.of196 Tryz.laysValid) ⟨by kernel_rfl, by kernel_rfl, by kernel_rfl, by kernel_rfl, by kernel_rfl, by kernel_rfl, by kernel_rfl⟩ h3 h2
  pow := pow_of_reads h1
end Go.Proofs.YtmijfcdmnibnpaaGreatDoor
/- How the arguments of layer 3's rows are opened: a slice of bytes, three numbers, a value. -/
namespace Go.Proofs.YtmijfcdmnibnpaaGreatDoor
open Go Go.RowKit Go.Shelf Go.ChangeShapes Go.WideShapes Go.ChangeAt Go.Lib

theorem laidOut : laidOutB Tryz.prog = true := by kernel_rfl
theorem cellsByte : Tryz.prog.cellsOf 5 = 1 := by kernel_rfl
set_option maxRecDepth 100000 in
/-- A slice of bytes among the arguments. -/
theorem open_bytes3 {H : Type} {enc : TypeId × Value → H} {W : World} {base : Nat} {v : Value} {d : DataW H} {ps : List MemPlace} (hval : Value.okWide Tryz.prog W .any base 22 v)
    (h : DataW.Trod enc Tryz.prog W 0 (fun _ => true) true 22 v d ps) : ∃ (a0 : Option Addr) (l : List UInt8) (cap : Nat), v = .slice a0 (l.length : Nat) cap ∧ l.length ≤ cap ∧ cap ≤ 9223372036854775807 ∧ BytesOf a0 l W := by
  obtain ⟨a0, len, cap, rfl⟩ := okWide_slice Tryz.underlying22 hval
  obtain ⟨fuel, hf⟩ := h
  rcases open_ints Tryz.underlying22 Tryz.underlying5 cellsByte hf with ⟨hcs, hx⟩ | ⟨a, len', cap', zs, hcs, _, hl, hm, hz, hx, hcell, hwz⟩
  · simp [Value.cells] at hcs
    obtain ⟨rfl, rfl, rfl⟩ := hcs
    exact ⟨none, [], 0, rfl, Nat.le_refl _, by omega, fun i hi => by simp at hi⟩
  · simp [Value.cells] at hcs
    obtain ⟨rfl, rfl, rfl⟩ := hcs
    simp only [if_true] at hz
    refine ⟨some a, (List.range len).map (fun i => UInt8.ofNat (zs.getD i 0).toNat), cap, by simp, by simpa using hl, by unfold maxLen at hm; omega, fun i hi => ?_⟩
    have hil : i < len := by simpa using hi
    obtain ⟨b, off, spot⟩ := a
    have hspot : spot = none := by simpa [Addr.add] using World.cell?_spot (hcell 0 (by omega))
    subst hspot
    have hci := hcell i (by omega)
    rw [WideShapes.add_plain] at hci
    have hwi := bounds_u8 (hwz (zs.getD i 0) (by
      have : zs.getD i 0 = zs[i]'(by omega) := by simp [List.getD, List.getElem?_eq_getElem (show i < zs.length by omega)]
      rw [this]
      exact List.getElem_mem _))
    refine ⟨b, off, rfl, block_lt_of_cell hci, ?_⟩
    rw [hci]
    simp only [List.getElem_map, List.getElem_range, UInt8.toNat_ofNat']
    congr 2
    omega
set_option maxRecDepth 100000 in
/-- Three numbers among the arguments. -/
theorem open_int3 {H : Type} {enc : TypeId × Value → H} {W : World} {base : Nat} {v : Value} {d : DataW H} {ps : List MemPlace} (hval : Value.okWide Tryz.prog W .any base 62 v)
    (h : DataW.Trod enc Tryz.prog W 0 (fun _ => true) true 62 v d ps) : ∃ a b c : Int, v = .agg #[.int .i64 a, .int .i64 b, .int .i64 c] ∧ ((-9223372036854775808 ≤ a ∧ a ≤ 9223372036854775807) ∧ (-9223372036854775808 ≤ b ∧ b ≤ 9223372036854775807) ∧ (-9223372036854775808 ≤ c ∧ c ≤ 9223372036854775807)) := by
  have hc3 : Tryz.prog.cellsOf 62 = 3 := by kernel_rfl
  obtain ⟨cs, rfl, hsz⟩ : ∃ cs, v = .agg cs ∧ cs.size = Tryz.prog.cellsOf 62 := by
    simp only [Value.okWide, Tryz.underlying62] at hval
    cases v <;> simp_all
  obtain ⟨c0, c1, c2, rfl⟩ := Joins.array3 (hsz.trans hc3)
  obtain ⟨fuel, hf⟩ := h
  obtain ⟨y0, y1, y2, n, hx, h0, h1, h2⟩ := trod_array3 Tryz.underlying62 (by kernel_rfl) (by simpa [Value.cells] using hf)
  obtain ⟨a, ha, _, wa⟩ := DataW.trod_int Tryz.underlying3 h0
  obtain ⟨b, hb, _, wb⟩ := DataW.trod_int Tryz.underlying3 h1
  obtain ⟨c, hc, _, wc⟩ := DataW.trod_int Tryz.underlying3 h2
  cases ha
  cases hb
  cases hc
  exact ⟨a, b, c, rfl, bounds_i64 wa, bounds_i64 wb, bounds_i64 wc⟩
/-- What is known of a value that came in. -/
structure ValIn (x : Val) (a : Option Addr) (c : Nat) (W : World) : Prop where
  kind : -9223372036854775808 ≤ x.kind ∧ x.kind ≤ 9223372036854775807
  num : -9223372036854775808 ≤ x.num ∧ x.num ≤ 9223372036854775807
  text : x.text.size ≤ 9223372036854775807
  cap : x.list.length ≤ c ∧ c ≤ 9223372036854775807
  nil : a = none → c = 0
  texts : TextsAre a x.list W
  each : ∀ s ∈ x.list, s.size ≤ 9223372036854775807
set_option maxRecDepth 100000 in
theorem open_value {H : Type} {enc : TypeId × Value → H} {W : World} {base : Nat} {v : Value} {d : DataW H} {ps : List MemPlace} (hval : Value.okWide Tryz.prog W .any base 29 v)
    (h : DataW.Trod enc Tryz.prog W 0 (fun _ => true) true 29 v d ps) : ∃ (x : Val) (a : Option Addr) (c : Nat), v = x.agg a c ∧ ValIn x a c W := by
  obtain ⟨v0, v1, v2, v3, y0, y1, y2, y3, n, rfl, _, _, h0, h1, h2, h3⟩ := Joins.open_agg4 Tryz.underlying29 (by kernel_rfl) (by kernel_rfl) hval h
  obtain ⟨k, hk, _, wk⟩ := DataW.trod_int Tryz.underlying3 h0
  obtain ⟨m, hm, _, wm⟩ := DataW.trod_int Tryz.underlying3 h1
  obtain ⟨s, hs, _, ws⟩ := DataW.trod_string Tryz.underlying9 h2
  cases hk
  cases hm
  cases hs
  have b1 := bounds_i64 wk
  have b2 := bounds_i64 wm
  have b3 : s.size ≤ 9223372036854775807 := by unfold maxLen at ws; omega
  rcases Deep.open_strs Tryz.underlying27 Tryz.underlying9 (by kernel_rfl) h3 with ⟨hcs, _⟩ | ⟨a, len, cap, mm, Sx, hcs, _, hl, hml, hmm, _, hcell⟩
  · cases hcs
    exact ⟨⟨k, m, s, []⟩, none, 0, rfl, b1, b2, b3, ⟨Nat.le_refl _, by omega⟩, (fun _ => rfl), (fun i hi => by simp at hi), (fun t ht => by simp at ht)⟩
  · cases hcs
    have hmm2 : mm = cap := by simpa using hmm
    subst hmm2
    obtain ⟨b, off, spot⟩ := a
    refine ⟨⟨k, m, s, (List.range len).map Sx⟩, some ⟨b, off, spot⟩, mm, by unfold Val.agg; simp, b1, b2, b3, ⟨by simpa using hl, by unfold maxLen at hml; omega⟩, (fun h => by cases h), fun i hi => ?_, fun t ht => ?_⟩
    · have hil : i < len := by simpa using hi
      have hspot : spot = none := by simpa [Addr.add] using World.cell?_spot ((hcell 0 (by omega)).1)
      subst hspot
      have hci := (hcell i (by omega)).1
      rw [WideShapes.add_plain] at hci
      exact ⟨b, off, rfl, block_lt_of_cell hci, by rw [hci]; simp⟩
    · obtain ⟨i, hi, rfl⟩ := List.mem_map.1 ht
      have hil : i < len := List.mem_range.1 hi
      have := (hcell i (by omega)).2
      unfold maxLen at this
      omega
end Go.Proofs.YtmijfcdmnibnpaaGreatDoor
